/-
  The document's own Role and Text of a credential.
-/
import Derived.Test.YtaadmgbmaekicaaGreatDoorJn9
import Derived.Test.YtaadmgbmaekicaaGreatDoorJn8
import Derived.Test.YtaadmgbmaekicaaGreatDoorRows
set_option linter.unusedVariables false
set_option linter.unusedSimpArgs false
namespace Go.Proofs.YtaadmgbmaekicaaGreatDoor.Sh
open Go Go.RowKit

theorem RoleAt.f {w : World} {g : Nat} {o n : ByteArray} (h : RoleAt w g o n) (k : Nat) : w.frozen? ⟨g, k, none⟩ = false := frozen_of_row w g k _ _ h
def textEnd (c : Crd) : Ending := .returned (.tuple (if mayC c = true then #[.string (textC c), .int .i64 0] else #[.string E0, .int .i64 11]))
theorem domB_size (d : Int) : (domB d).size ≤ 3 := by
  rw [← size_list]
  show (domL d).length ≤ 3
  unfold domL
  split
  · simp
  · split <;> simp
theorem role_sizes {o n : ByteArray} (h : roleL o.data.toList n.data.toList = true) : o.size ≤ 3 ∧ n.size ≤ 8 := by
  unfold roleL at h
  simp only [Bool.and_eq_true, decide_eq_true_eq] at h
  refine ⟨?_, mayL_size h.1⟩
  have e := size_list o
  rw [← (domL_numL _ h.2).1] at e
  rw [← e]
  have := domB_size (numL o.data.toList : Int)
  rw [← size_list] at this
  exact this
theorem e0_size : E0.size = 0 := rfl
theorem may_sizes {c : Crd} (h : mayC c = true) : c.nm.size ≤ 8 ∧ c.wh.size ≤ 8 ∧ c.ao.size ≤ 3 ∧ c.an.size ≤ 8 ∧ c.bo.size ≤ 3 ∧ c.bn.size ≤ 8 := by
  obtain ⟨_, _, _, _, h5⟩ := may_head h
  refine ⟨mayL_size h5, ?_⟩
  rcases may_kind h with ⟨_, m, a, b, c, d⟩ | ⟨_, a, m, c, d⟩ | ⟨_, a, b, m, d, m2⟩ | ⟨_, a, m, m2⟩
  · rw [a, b, c, d, e0_size]; exact ⟨mayL_size m, by omega, by omega, by omega, by omega⟩
  · rw [a, c, d, e0_size]; exact ⟨by omega, (role_sizes m).1, (role_sizes m).2, by omega, by omega⟩
  · rw [a, b, d, e0_size]; exact ⟨by omega, by omega, mayL_size m, by omega, mayL_size m2⟩
  · rw [a, e0_size]; exact ⟨by omega, (role_sizes m).1, (role_sizes m).2, (role_sizes m2).1, (role_sizes m2).2⟩
theorem textC_1 {c : Crd} (h : c.kd = 1) : textC c = domB c.d ++ dotB ++ c.nm ++ arrow ++ c.wh := by
  refine ba_eq ?_
  unfold textC textHead
  rw [textBody_1 h]
  simp [domB, dotB, arrow]
theorem textC_2 {c : Crd} (h : c.kd = 2) : textC c = domB c.d ++ dotB ++ c.nm ++ arrow ++ textB c.ao c.an := by
  refine ba_eq ?_
  unfold textC textHead
  rw [textBody_2 h]
  simp [domB, dotB, arrow, textB_list]
theorem textC_3 {c : Crd} (h : c.kd = 3) : textC c = domB c.d ++ dotB ++ c.nm ++ arrow ++ domB c.d ++ dotB ++ c.an ++ dotB ++ c.bn := by
  refine ba_eq ?_
  unfold textC textHead
  rw [textBody_3 h]
  simp [domB, dotB, arrow]
theorem textC_4 {c : Crd} (h : c.kd = 4) : textC c = domB c.d ++ dotB ++ c.nm ++ arrow ++ textB c.ao c.an ++ amp ++ textB c.bo c.bn := by
  refine ba_eq ?_
  unfold textC textHead
  rw [textBody_4 h]
  simp [domB, dotB, arrow, amp, textB_list]
theorem textB_size (o n : ByteArray) : (textB o n).size = o.size + 1 + n.size := by
  rw [← size_list, textB_list, List.length_append, List.length_cons, size_list, size_list]; omega

end Go.Proofs.YtaadmgbmaekicaaGreatDoor.Sh
/-
  The document's own PutRole and Put of a credential.
-/
namespace Go.Proofs.YtaadmgbmaekicaaGreatDoor.Sh
open Go Go.RowKit

theorem Puts.open {w w' : World} {e : Ending} {l k : List UInt8} (h : Puts w w' e l k) : ∃ A c N, e = .returned (.slice A N c) ∧ (l ++ k).length = N ∧ N = l.length + k.length ∧ Byt w' w'.heap.size A (l ++ k) ∧ Below w.heap.size w w' := by
  obtain ⟨A, c, N, h1, h2, h3, h4, h5, h6⟩ := h
  exact ⟨A, c, N, h1, by rw [h2, List.length_append], h2, h5.byt, h6⟩
theorem Puts.then {w w1 w2 : World} {e1 e2 : Ending} {l k1 k2 : List UInt8} (h1 : Puts w w1 e1 l k1) (h2 : Puts w1 w2 e2 (l ++ k1) k2) : Puts w w2 e2 l (k1 ++ k2) := by
  obtain ⟨_, _, _, _, _, _, _, _, b1⟩ := h1
  obtain ⟨A, c, N, g1, g2, g3, g4, g5, g6⟩ := h2
  exact ⟨A, c, N, g1, by rw [g2]; simp; omega, g3, g4, by rw [← List.append_assoc]; exact g5.mono b1.size, b1.trans (g6.mono b1.size)⟩
theorem Puts.from {w w0 w1 : World} {e : Ending} {l k : List UInt8} (b : Below w.heap.size w w0) (h : Puts w0 w1 e l k) : Puts w w1 e l k := by
  obtain ⟨A, c, N, g1, g2, g3, g4, g5, g6⟩ := h
  exact ⟨A, c, N, g1, g2, g3, g4, g5.mono b.size, b.trans (g6.mono b.size)⟩
theorem Puts.bel {w w' : World} {e : Ending} {l k : List UInt8} (h : Puts w w' e l k) : Below w.heap.size w w' := by
  obtain ⟨_, _, _, _, _, _, _, _, b⟩ := h; exact b
theorem Puts.below {w w1 w2 : World} {e : Ending} {l k : List UInt8} (h : Puts w w1 e l k) (b : Below w1.heap.size w1 w2) : Puts w w2 e l k := by
  obtain ⟨A, c, N, g1, g2, g3, g4, g5, g6⟩ := h
  exact ⟨A, c, N, g1, g2, g3, g4, OwnB.below g5 b, g6.trans (b.mono g6.size)⟩
theorem numL_lt (l : List UInt8) : numL l ≤ 16 := by
  by_cases h : numL l = 0
  · omega
  · exact (domL_numL l h).2.2

set_option maxHeartbeats 2000000 in
theorem refPutRole_any (A : Option Addr) (l : List UInt8) (o s : ByteArray) (n c : Nat) (hn : l.length = n) (hL : n ≤ 1099511620000) (hs : s.size ≤ 1000) (w : World) (hb : Byt w w.heap.size A l) :
    Calls Tryz.prog 129 #[.slice A n c, .agg #[.string o, .string s]] w fun e w' => Puts w w' e l (putR o s) := by
  have HN := hid (fun w => refNnum_any o w)
  have hk16 := numL_lt o.data.toList
  obtain ⟨k, hk⟩ : ∃ k, numL o.data.toList = k := ⟨_, rfl⟩
  have HE : Hid (putR o s = enc k ++ encText s) := hid (by rw [putR, hk])
  rw [hk] at HN hk16
  clear hk
  obtain ⟨w0, hw0⟩ : ∃ w0, w0 = w.alloc (.cells #[.string o, .string s] 69) := ⟨_, rfl⟩
  have r0 : RoleAt w0 w.heap.size o s := by rw [hw0]; exact RoleAt.new w o s
  have b0 : Below w.heap.size w w0 := by rw [hw0]; exact below_box w o s
  have y0 := (hb.below b0).more b0.size
  have B0 := hid b0
  go_enter Tryz.func129, Tryz.ntmps129
  go_wp2_with fail
  rw [← hw0]
  clear hw0
  refine (HN.out _).mono ?_
  rintro er w1 ⟨rfl, rfl⟩
  go_wp2_with fail
  refine (refNumber_any A l (k : Int) n c hn (by omega) (by omega) (by omega) w0 y0).mono ?_
  rintro er w1 hP
  obtain ⟨A1, c1, N1, rfl, hl1, hN1, y1, b1⟩ := hP.open
  have r1 := r0.kept b1
  have q0 := r1.c0
  have q1 := r1.c1
  have P1 := hid hP
  have HX := hid hl1
  have hN1' : N1 ≤ n + 9 := by have := enc_len_le (n := k) (by omega); rw [hN1, hn]; simp at *; omega
  clear hP r0 b0 y0 hb r1 b1 hN1 hl1
  go_wp2_with fail
  refine (refText_any A1 _ s N1 c1 HX.out (by omega) (by omega) w1 y1).mono ?_
  rintro er w2 hP
  obtain ⟨A2, c2, N2, rfl, hl2, hN2, y2, b2⟩ := hP.open
  have P2 := hid hP
  clear hP b2 y2 hN2 hl2 q0 q1 y1
  go_wp2
  go_ret
  rw [HE.out]
  have := P1.out.then P2.out
  exact this.from B0.out

/-- A credential put, or refused. -/
def PutsE (w w' : World) (e : Ending) (l : List UInt8) (c : Crd) : Prop :=
  (mayC c = false ∧ e = .returned (.tuple #[.slice none 0 0, .int .i64 11]) ∧ Below w.heap.size w w') ∨
  (mayC c = true ∧ ∃ A N k, e = .returned (.tuple #[.slice A N k, .int .i64 0]) ∧ Puts w w' (.returned (.slice A N k)) l (putC c))
theorem encText_le (s : ByteArray) (h : s.size ≤ 8) : (encText s).length ≤ 17 := by
  have := enc_len_le (n := s.size) (by omega)
  rw [encText_length]; omega
theorem putR_le (o s : ByteArray) (h : s.size ≤ 8) : (putR o s).length ≤ 30 := by
  have h1 := encText_le s h
  have h2 := numL_lt o.data.toList
  have := enc_len_le (n := numL o.data.toList) (by omega)
  rw [putR, List.length_append]; omega
end Go.Proofs.YtaadmgbmaekicaaGreatDoor.Sh
/-
  The document's own name, ReadRole and Read of a credential.
-/
namespace Go.Proofs.YtaadmgbmaekicaaGreatDoor.Sh
open Go Go.RowKit

/-- A store into a block that is new since a. -/
theorem gro_new {a w w' : World} {g b : Nat} (h : a.grownBy w (some g)) (hg : w.grownBy w' (some b)) (hb : a.heap.size ≤ b) : a.grownBy w' (some g) :=
  ⟨hg.os.trans h.os, hg.tape.trans h.tape, hg.output.trans h.output, Nat.le_trans h.size hg.size, fun k hk hne =>
    (hg.block k (Nat.lt_of_lt_of_le hk h.size) (fun e => by injection e with e; omega)).trans (h.block k hk hne)⟩
theorem gro_trans {a b c : World} {row : Option Nat} (h : a.grownBy b row) (k : b.grownBy c row) : a.grownBy c row :=
  ⟨k.os.trans h.os, k.tape.trans h.tape, k.output.trans h.output, Nat.le_trans h.size k.size, fun i hi hne => (k.block i (Nat.lt_of_lt_of_le hi h.size) hne).trans (h.block i hi hne)⟩
theorem gro_below {a w w' : World} {row : Option Nat} (h : a.grownBy w row) (hb : Below w.heap.size w w') : a.grownBy w' row :=
  ⟨hb.os.trans h.os, hb.tape.trans h.tape, hb.output.trans h.output, Nat.le_trans h.size hb.size, fun i hi hne => (hb.block i (Nat.lt_of_lt_of_le hi h.size)).trans (h.block i hi hne)⟩
theorem gro_alloc {a w : World} {row : Option Nat} (h : a.grownBy w row) (o : Obj) : a.grownBy (w.alloc o) row := gro_below h ((Below.refl _ _).alloc (Nat.le_refl _) _)
theorem gro_refl (w : World) (row : Option Nat) : w.grownBy w row := ⟨rfl, rfl, rfl, Nat.le_refl _, fun _ _ _ => rfl⟩

section
variable {T : TypeId} {w0 w w' : World} {lo hi g n c p p' : Nat} {A : Option Addr} {l : List UInt8} {e e' : Int} {X R : Nat} {x : Crd} {er : Ending} {v : Value}
end
section
variable {w : World} {X : Nat} {d q kd : Int} {nm wh ao an bo bn : ByteArray}
end

end Go.Proofs.YtaadmgbmaekicaaGreatDoor.Sh
/-
  The document's own Read of a credential.
-/
namespace Go.Proofs.YtaadmgbmaekicaaGreatDoor.Sh
open Go Go.RowKit

/-- What Read answers, and the cursor behind it. -/
def ReadEnd (T : TypeId) (w w' : World) (lo hi g : Nat) (A : Option Addr) (n c : Nat) (l : List UInt8) (er : Ending) (x : Crd × Nat × Int) : Prop :=
  StepC T w w' lo hi g A n c l er (.agg x.1.cells.toArray) x.2.1 x.2.2
/-- Nine cells behind a store of all of them. -/
theorem nine_set {w : World} {g : Nat} {u0 u1 u2 u3 u4 u5 u6 u7 u8 v0 v1 v2 v3 v4 v5 v6 v7 v8 : Value} {t : TypeId} (h : w.heap[g]? = some (.cells #[u0, u1, u2, u3, u4, u5, u6, u7, u8] t (0, 0))) :
    (((((((((w.setCell ⟨g, 0, none⟩ v0).setCell ⟨g, 1, none⟩ v1).setCell ⟨g, 2, none⟩ v2).setCell ⟨g, 3, none⟩ v3).setCell ⟨g, 4, none⟩ v4).setCell ⟨g, 5, none⟩ v5).setCell ⟨g, 6, none⟩ v6).setCell ⟨g, 7, none⟩ v7).setCell ⟨g, 8, none⟩ v8).heap[g]? = some (.cells #[v0, v1, v2, v3, v4, v5, v6, v7, v8] t (0, 0)) := by
  have h0 : (w.setCell ⟨g, 0, none⟩ v0).heap[g]? = some (.cells #[v0, u1, u2, u3, u4, u5, u6, u7, u8] t (0, 0)) := heap_setCell_same w g 0 _ _ v0 h
  have h1 : ((w.setCell ⟨g, 0, none⟩ v0).setCell ⟨g, 1, none⟩ v1).heap[g]? = some (.cells #[v0, v1, u2, u3, u4, u5, u6, u7, u8] t (0, 0)) := heap_setCell_same (w.setCell ⟨g, 0, none⟩ v0) g 1 _ _ v1 h0
  have h2 : (((w.setCell ⟨g, 0, none⟩ v0).setCell ⟨g, 1, none⟩ v1).setCell ⟨g, 2, none⟩ v2).heap[g]? = some (.cells #[v0, v1, v2, u3, u4, u5, u6, u7, u8] t (0, 0)) := heap_setCell_same ((w.setCell ⟨g, 0, none⟩ v0).setCell ⟨g, 1, none⟩ v1) g 2 _ _ v2 h1
  have h3 : ((((w.setCell ⟨g, 0, none⟩ v0).setCell ⟨g, 1, none⟩ v1).setCell ⟨g, 2, none⟩ v2).setCell ⟨g, 3, none⟩ v3).heap[g]? = some (.cells #[v0, v1, v2, v3, u4, u5, u6, u7, u8] t (0, 0)) := heap_setCell_same (((w.setCell ⟨g, 0, none⟩ v0).setCell ⟨g, 1, none⟩ v1).setCell ⟨g, 2, none⟩ v2) g 3 _ _ v3 h2
  have h4 : (((((w.setCell ⟨g, 0, none⟩ v0).setCell ⟨g, 1, none⟩ v1).setCell ⟨g, 2, none⟩ v2).setCell ⟨g, 3, none⟩ v3).setCell ⟨g, 4, none⟩ v4).heap[g]? = some (.cells #[v0, v1, v2, v3, v4, u5, u6, u7, u8] t (0, 0)) := heap_setCell_same ((((w.setCell ⟨g, 0, none⟩ v0).setCell ⟨g, 1, none⟩ v1).setCell ⟨g, 2, none⟩ v2).setCell ⟨g, 3, none⟩ v3) g 4 _ _ v4 h3
  have h5 : ((((((w.setCell ⟨g, 0, none⟩ v0).setCell ⟨g, 1, none⟩ v1).setCell ⟨g, 2, none⟩ v2).setCell ⟨g, 3, none⟩ v3).setCell ⟨g, 4, none⟩ v4).setCell ⟨g, 5, none⟩ v5).heap[g]? = some (.cells #[v0, v1, v2, v3, v4, v5, u6, u7, u8] t (0, 0)) := heap_setCell_same (((((w.setCell ⟨g, 0, none⟩ v0).setCell ⟨g, 1, none⟩ v1).setCell ⟨g, 2, none⟩ v2).setCell ⟨g, 3, none⟩ v3).setCell ⟨g, 4, none⟩ v4) g 5 _ _ v5 h4
  have h6 : (((((((w.setCell ⟨g, 0, none⟩ v0).setCell ⟨g, 1, none⟩ v1).setCell ⟨g, 2, none⟩ v2).setCell ⟨g, 3, none⟩ v3).setCell ⟨g, 4, none⟩ v4).setCell ⟨g, 5, none⟩ v5).setCell ⟨g, 6, none⟩ v6).heap[g]? = some (.cells #[v0, v1, v2, v3, v4, v5, v6, u7, u8] t (0, 0)) := heap_setCell_same ((((((w.setCell ⟨g, 0, none⟩ v0).setCell ⟨g, 1, none⟩ v1).setCell ⟨g, 2, none⟩ v2).setCell ⟨g, 3, none⟩ v3).setCell ⟨g, 4, none⟩ v4).setCell ⟨g, 5, none⟩ v5) g 6 _ _ v6 h5
  have h7 : ((((((((w.setCell ⟨g, 0, none⟩ v0).setCell ⟨g, 1, none⟩ v1).setCell ⟨g, 2, none⟩ v2).setCell ⟨g, 3, none⟩ v3).setCell ⟨g, 4, none⟩ v4).setCell ⟨g, 5, none⟩ v5).setCell ⟨g, 6, none⟩ v6).setCell ⟨g, 7, none⟩ v7).heap[g]? = some (.cells #[v0, v1, v2, v3, v4, v5, v6, v7, u8] t (0, 0)) := heap_setCell_same (((((((w.setCell ⟨g, 0, none⟩ v0).setCell ⟨g, 1, none⟩ v1).setCell ⟨g, 2, none⟩ v2).setCell ⟨g, 3, none⟩ v3).setCell ⟨g, 4, none⟩ v4).setCell ⟨g, 5, none⟩ v5).setCell ⟨g, 6, none⟩ v6) g 7 _ _ v7 h6
  have h8 : (((((((((w.setCell ⟨g, 0, none⟩ v0).setCell ⟨g, 1, none⟩ v1).setCell ⟨g, 2, none⟩ v2).setCell ⟨g, 3, none⟩ v3).setCell ⟨g, 4, none⟩ v4).setCell ⟨g, 5, none⟩ v5).setCell ⟨g, 6, none⟩ v6).setCell ⟨g, 7, none⟩ v7).setCell ⟨g, 8, none⟩ v8).heap[g]? = some (.cells #[v0, v1, v2, v3, v4, v5, v6, v7, v8] t (0, 0)) := heap_setCell_same ((((((((w.setCell ⟨g, 0, none⟩ v0).setCell ⟨g, 1, none⟩ v1).setCell ⟨g, 2, none⟩ v2).setCell ⟨g, 3, none⟩ v3).setCell ⟨g, 4, none⟩ v4).setCell ⟨g, 5, none⟩ v5).setCell ⟨g, 6, none⟩ v6).setCell ⟨g, 7, none⟩ v7) g 8 _ _ v8 h7
  exact h8
section
variable {T : TypeId} {w0 w : World} {lo hi g n c p : Nat} {A : Option Addr} {l : List UInt8} {e : Int} {X R : Nat} {x : Crd}
/-- A store into the result's block. -/
theorem res_set (h : Cu T w lo hi g A n c l p e) (hG : w0.grownBy w (some g)) (hR : w0.heap.size ≤ R) (hg : g < w0.heap.size) (k : Nat) (v : Value) :
    Cu T (w.setCell ⟨R, k, none⟩ v) lo hi g A n c l p e ∧ w0.grownBy (w.setCell ⟨R, k, none⟩ v) (some g) :=
  ⟨h.other (grown_set w R k v) (by omega) (.inr (by have := h.hi; omega)), gro_new hG (grown_set w R k v) hR⟩
theorem res_nine (h : Cu T w lo hi g A n c l p e) (hG : w0.grownBy w (some g)) (hR : w0.heap.size ≤ R) (hg : g < w0.heap.size) (v0 v1 v2 v3 v4 v5 v6 v7 v8 : Value) :
    Cu T (((((((((w.setCell ⟨R, 0, none⟩ v0).setCell ⟨R, 1, none⟩ v1).setCell ⟨R, 2, none⟩ v2).setCell ⟨R, 3, none⟩ v3).setCell ⟨R, 4, none⟩ v4).setCell ⟨R, 5, none⟩ v5).setCell ⟨R, 6, none⟩ v6).setCell ⟨R, 7, none⟩ v7).setCell ⟨R, 8, none⟩ v8) lo hi g A n c l p e ∧
    w0.grownBy (((((((((w.setCell ⟨R, 0, none⟩ v0).setCell ⟨R, 1, none⟩ v1).setCell ⟨R, 2, none⟩ v2).setCell ⟨R, 3, none⟩ v3).setCell ⟨R, 4, none⟩ v4).setCell ⟨R, 5, none⟩ v5).setCell ⟨R, 6, none⟩ v6).setCell ⟨R, 7, none⟩ v7).setCell ⟨R, 8, none⟩ v8) (some g) := by
  obtain ⟨h0, g0⟩ := res_set h hG hR hg 0 v0
  obtain ⟨h1, g1⟩ := res_set h0 g0 hR hg 1 v1
  obtain ⟨h2, g2⟩ := res_set h1 g1 hR hg 2 v2
  obtain ⟨h3, g3⟩ := res_set h2 g2 hR hg 3 v3
  obtain ⟨h4, g4⟩ := res_set h3 g3 hR hg 4 v4
  obtain ⟨h5, g5⟩ := res_set h4 g4 hR hg 5 v5
  obtain ⟨h6, g6⟩ := res_set h5 g5 hR hg 6 v6
  obtain ⟨h7, g7⟩ := res_set h6 g6 hR hg 7 v7
  exact res_set h7 g7 hR hg 8 v8
end

end Go.Proofs.YtaadmgbmaekicaaGreatDoor.Sh
/-
  IDs in blocks of their own; their order; the document's own Before.
-/
namespace Go.Proofs.YtaadmgbmaekicaaGreatDoor.Sh
open Go Go.RowKit

/-- An ID in a block of its own. -/
def IdAt (w : World) (g : Nat) (d q : Int) : Prop := w.heap[g]? = some (.cells #[.int .i64 d, .int .i64 q] 65 (0, 0))
theorem IdAt.new (w : World) (d q : Int) : IdAt (w.alloc (.cells #[.int .i64 d, .int .i64 q] 65)) w.heap.size d q := heap_alloc_new w _
theorem IdAt.c0 {w : World} {g : Nat} {d q : Int} (h : IdAt w g d q) : w.cell? ⟨g, 0, none⟩ = some (.int .i64 d) := by rw [cell_of_row w g 0 _ _ (0, 0) h]; rfl
theorem IdAt.c1 {w : World} {g : Nat} {d q : Int} (h : IdAt w g d q) : w.cell? ⟨g, 1, none⟩ = some (.int .i64 q) := by rw [cell_of_row w g 1 _ _ (0, 0) h]; rfl
theorem IdAt.lt {w : World} {g : Nat} {d q : Int} (h : IdAt w g d q) : g < w.heap.size := (Array.getElem?_eq_some_iff.1 h).1
theorem IdAt.kept {w w' : World} {g : Nat} {d q : Int} (h : IdAt w g d q) (hb : Below w.heap.size w w') : IdAt w' g d q := (hb.block g h.lt).trans h
theorem below_id (w : World) (d q : Int) : Below w.heap.size w (w.alloc (.cells #[.int .i64 d, .int .i64 q] 65)) := (Below.refl _ _).alloc (Nat.le_refl _) _
theorem below_id2 (w : World) (d q d' q' : Int) : Below w.heap.size w ((w.alloc (.cells #[.int .i64 d, .int .i64 q] 65)).alloc (.cells #[.int .i64 d', .int .i64 q'] 65)) :=
  (below_id w d q).trans ((below_id _ d' q').mono (by rw [World.size_alloc]; exact Nat.le_succ _))
/-- The order of IDs. -/
def beforeI (d q d' q' : Int) : Bool := decide (d < d' ∨ (d = d' ∧ q < q'))
theorem beforeI_trans {d q d' q' d'' q'' : Int} (h1 : beforeI d q d' q' = true) (h2 : beforeI d' q' d'' q'' = true) : beforeI d q d'' q'' = true := by
  unfold beforeI at *
  simp only [decide_eq_true_eq] at *
  omega
theorem refBefore_any (d q d' q' : Int) (w : World) : Calls Tryz.prog 35 #[.agg #[.int .i64 d, .int .i64 q], .agg #[.int .i64 d', .int .i64 q']] w fun er w' => er = .returned (.bool (beforeI d q d' q')) ∧ Below w.heap.size w w' := by
  by_cases h : d = d'
  · subst h
    have hb : (d == d) = true := by simp
    by_cases hq : q < q'
    · have HE : Hid (beforeI d q d q' = true) := hid (by unfold beforeI; simp; omega)
      go_enter Tryz.func35, Tryz.ntmps35
      go_wp2
      go_ret
      exact ⟨by rw [HE.out]; rfl, below_id2 _ _ _ _ _⟩
    · have HE : Hid (beforeI d q d q' = false) := hid (by unfold beforeI; simp; omega)
      go_enter Tryz.func35, Tryz.ntmps35
      go_wp2
      go_ret
      exact ⟨by rw [HE.out]; rfl, below_id2 _ _ _ _ _⟩
  · have hb : (d == d') = false := beq_eq_false_iff_ne.2 h
    by_cases hq : d < d'
    · have HE : Hid (beforeI d q d' q' = true) := hid (by unfold beforeI; simp; omega)
      go_enter Tryz.func35, Tryz.ntmps35
      go_wp2
      go_ret
      exact ⟨by rw [HE.out]; rfl, below_id2 _ _ _ _ _⟩
    · have HE : Hid (beforeI d q d' q' = false) := hid (by unfold beforeI; simp; omega)
      go_enter Tryz.func35, Tryz.ntmps35
      go_wp2
      go_ret
      exact ⟨by rw [HE.out]; rfl, below_id2 _ _ _ _ _⟩

end Go.Proofs.YtaadmgbmaekicaaGreatDoor.Sh
/-
  The document's own Less.
-/
namespace Go.Proofs.YtaadmgbmaekicaaGreatDoor.Sh
open Go Go.RowKit

def lessL (o n o' n' : ByteArray) : Bool := if o.data.toList = o'.data.toList then Go.Op.bytesLess n.data.toList n'.data.toList else Go.Op.bytesLess o.data.toList o'.data.toList
theorem refLess_any (o n o' n' : ByteArray) (w : World) :
    Calls Tryz.prog 76 #[.agg #[.string o, .string n], .agg #[.string o', .string n']] w fun e w' => e = .returned (.bool (lessL o n o' n')) ∧ Below w.heap.size w w' := by
  by_cases h : o.data.toList = o'.data.toList
  · have HE : Hid (lessL o n o' n' = Go.Op.bytesLess n.toList n'.toList) := hid (by unfold lessL; rw [if_pos h, Lib.toList_data, Lib.toList_data])
    have hb : (o.toList == o'.toList) = true := by rw [Lib.toList_data, Lib.toList_data, h]; simp
    clear h
    go_enter Tryz.func76, Tryz.ntmps76
    go_wp2
    go_ret
    exact ⟨by rw [HE.out]; rfl, ((Below.refl _ _).alloc (Nat.le_refl _) _).alloc (by rw [World.size_alloc]; exact Nat.le_succ _) _⟩
  · have HE : Hid (lessL o n o' n' = Go.Op.bytesLess o.toList o'.toList) := hid (by unfold lessL; rw [if_neg h, Lib.toList_data, Lib.toList_data])
    have hb : (o.toList == o'.toList) = false := by rw [Lib.toList_data, Lib.toList_data, beq_eq_false_iff_ne]; exact h
    clear h
    go_enter Tryz.func76, Tryz.ntmps76
    go_wp2
    go_ret
    exact ⟨by rw [HE.out]; rfl, ((Below.refl _ _).alloc (Nat.le_refl _) _).alloc (by rw [World.size_alloc]; exact Nat.le_succ _) _⟩
end Go.Proofs.YtaadmgbmaekicaaGreatDoor.Sh
/-
  SHA-256 as plain functions on lists of bytes and on 32-bit words, typed from the document (chapter 1). Imports nothing of the program.
-/
namespace Go.Proofs.YtaadmgbmaekicaaGreatDoor.Sh

def kWords : List UInt32 := [1116352408, 1899447441, 3049323471, 3921009573, 961987163, 1508970993, 2453635748, 2870763221, 3624381080, 310598401, 607225278, 1426881987, 1925078388, 2162078206, 2614888103, 3248222580, 3835390401, 4022224774, 264347078, 604807628, 770255983, 1249150122, 1555081692, 1996064986, 2554220882, 2821834349, 2952996808, 3210313671, 3336571891, 3584528711, 113926993, 338241895, 666307205, 773529912, 1294757372, 1396182291, 1695183700, 1986661051, 2177026350, 2456956037, 2730485921, 2820302411, 3259730800, 3345764771, 3516065817, 3600352804, 4094571909, 275423344, 430227734, 506948616, 659060556, 883997877, 958139571, 1322822218, 1537002063, 1747873779, 1955562222, 2024104815, 2227730452, 2361852424, 2428436474, 2756734187, 3204031479, 3329325298]
def rotr (x : UInt32) (n : Nat) : UInt32 := (x >>> UInt32.ofNat n) ||| (x <<< UInt32.ofNat (32 - n))
def choice (e f g : UInt32) : UInt32 := (e &&& f) ^^^ (~~~e &&& g)
def major (a b c : UInt32) : UInt32 := (a &&& b) ^^^ (a &&& c) ^^^ (b &&& c)
def bigA (a : UInt32) : UInt32 := rotr a 2 ^^^ rotr a 13 ^^^ rotr a 22
def bigE (e : UInt32) : UInt32 := rotr e 6 ^^^ rotr e 11 ^^^ rotr e 25
def sig0 (x : UInt32) : UInt32 := rotr x 7 ^^^ rotr x 18 ^^^ (x >>> 3)
def sig1 (x : UInt32) : UInt32 := rotr x 17 ^^^ rotr x 19 ^^^ (x >>> 10)

structure St where
  a : UInt32
  b : UInt32
  c : UInt32
  d : UInt32
  e : UInt32
  f : UInt32
  g : UInt32
  h : UInt32

def St.list (s : St) : List UInt32 := [s.a, s.b, s.c, s.d, s.e, s.f, s.g, s.h]
def xOf (s : St) (k w : UInt32) : UInt32 := s.h + bigE s.e + choice s.e s.f s.g + k + w
def yOf (s : St) : UInt32 := bigA s.a + major s.a s.b s.c
def step (s : St) (k w : UInt32) : St := ⟨xOf s k w + yOf s, s.a, s.b, s.c, s.d + xOf s k w, s.e, s.f, s.g⟩
def rounds (s : St) (w : List UInt32) : Nat → St
  | 0 => s
  | n + 1 => step (rounds s w n) (kWords.getD n 0) (w.getD n 0)

/-- The word of four bytes, the most significant first. -/
def word4 (a b c d : UInt8) : UInt32 := a.toUInt32 <<< 24 ||| b.toUInt32 <<< 16 ||| c.toUInt32 <<< 8 ||| d.toUInt32
def first16 (blk : List UInt8) : Nat → List UInt32
  | 0 => []
  | n + 1 => first16 blk n ++ [word4 (blk.getD (4 * n) 0) (blk.getD (4 * n + 1) 0) (blk.getD (4 * n + 2) 0) (blk.getD (4 * n + 3) 0)]
def next (w : List UInt32) (t : Nat) : UInt32 := w.getD (t - 16) 0 + sig0 (w.getD (t - 15) 0) + w.getD (t - 7) 0 + sig1 (w.getD (t - 2) 0)
def more (blk : List UInt8) : Nat → List UInt32
  | 0 => first16 blk 16
  | n + 1 => more blk n ++ [next (more blk n) (16 + n)]
def sched (blk : List UInt8) : List UInt32 := more blk 48

def addSt (s t : St) : St := ⟨s.a + t.a, s.b + t.b, s.c + t.c, s.d + t.d, s.e + t.e, s.f + t.f, s.g + t.g, s.h + t.h⟩
def compress (s : St) (blk : List UInt8) : St := addSt s (rounds s (sched blk) 64)
/-- The state behind the first n blocks of l. -/
def absorb (s : St) (l : List UInt8) : Nat → St
  | 0 => s
  | n + 1 => compress (absorb s l n) ((l.drop (64 * n)).take 64)
def init : St := ⟨1779033703, 3144134277, 1013904242, 2773480762, 1359893119, 2600822924, 528734635, 1541459225⟩
def zerosFor (n : Nat) : Nat := (119 - n % 64) % 64
def be8 (n : Nat) : List UInt8 := [UInt8.ofNat (n / 2 ^ 56), UInt8.ofNat (n / 2 ^ 48), UInt8.ofNat (n / 2 ^ 40), UInt8.ofNat (n / 2 ^ 32), UInt8.ofNat (n / 2 ^ 24), UInt8.ofNat (n / 2 ^ 16), UInt8.ofNat (n / 2 ^ 8), UInt8.ofNat n]
def pad (l : List UInt8) : List UInt8 := l ++ 128 :: (List.replicate (zerosFor l.length) 0 ++ be8 (8 * l.length))
def bytes4 (x : UInt32) : List UInt8 := [(x >>> 24).toUInt8, (x >>> 16).toUInt8, (x >>> 8).toUInt8, x.toUInt8]
def digest (s : St) : List UInt8 := s.list.flatMap bytes4
def sha (l : List UInt8) : List UInt8 := digest (absorb init (pad l) ((pad l).length / 64))

def hexDigit (n : Nat) : UInt8 := if n < 10 then UInt8.ofNat (48 + n) else UInt8.ofNat (87 + n)
def hexOf (l : List UInt8) : List UInt8 := l.flatMap fun x => [hexDigit (x.toNat / 16), hexDigit (x.toNat % 16)]

end Go.Proofs.YtaadmgbmaekicaaGreatDoor.Sh
/-
  HMAC-SHA256 and derived keys as plain functions on lists of bytes, typed from the document (chapter 2).
-/
namespace Go.Proofs.YtaadmgbmaekicaaGreatDoor.Sh

def keyPad (key : List UInt8) : List UInt8 := (if 64 < key.length then sha key else key) ++ List.replicate (64 - (if 64 < key.length then sha key else key).length) 0
def xorAll (l : List UInt8) (x : UInt8) : List UInt8 := l.map (· ^^^ x)
def hmac (key data : List UInt8) : List UInt8 := sha (xorAll (keyPad key) 92 ++ sha (xorAll (keyPad key) 54 ++ data))
def two64 (n : Int) : Nat := (n % 18446744073709551616).toNat
def keyData (label : List UInt8) (n : Int) : List UInt8 := label ++ 0 :: be8 (two64 n)

theorem sha_len (l : List UInt8) : (sha l).length = 32 := by simp [sha, digest, St.list, bytes4]
theorem keyPad_length (key : List UInt8) : (keyPad key).length = 64 := by
  unfold keyPad
  split
  · simp [sha_len]
  · simp; omega
theorem xorAll_length (l : List UInt8) (x : UInt8) : (xorAll l x).length = l.length := by simp [xorAll]
theorem hmac_length (key data : List UInt8) : (hmac key data).length = 32 := sha_len _
end Go.Proofs.YtaadmgbmaekicaaGreatDoor.Sh
