/-
  The program's side of a block: rounds and schedule, by contract.
-/
import Derived.Test.YtdmglanepjhdoaaDoorShHex
namespace Go.Proofs.YtdmglanepjhdoaaDoor.Sh
open Go Go.RowKit

/-- Words as cells. -/
def wv (l : List UInt32) : List Value := l.map fun x => Value.int .u32 x.toNat
def stv (s : St) : Value := .agg #[.int .u32 s.a.toNat, .int .u32 s.b.toNat, .int .u32 s.c.toNat, .int .u32 s.d.toNat, .int .u32 s.e.toNat, .int .u32 s.f.toNat, .int .u32 s.g.toNat, .int .u32 s.h.toNat]
/-- The table of the words k lies in block 0. -/
def Tab (w : World) : Prop := ∀ t, t < 64 → w.cell? ⟨0, t, none⟩ = some (.int .u32 (kWords.getD t 0).toNat)
theorem Tab.below {w w' : World} {B : Nat} (h : Tab w) (hB : 0 < B) (hb : Below B w w') : Tab w' := fun t ht => (hb.cell (p := ⟨0, t, none⟩) hB).trans (h t ht)
theorem Tab.pos {w : World} (h : Tab w) : 0 < w.heap.size := World.block_lt_of_cell? w _ (h 0 (by omega))

theorem rotated_int (x : UInt32) (z : Int) (h0 : 0 < z) (hz : z < 32) (w : World) :
    Calls Tryd.prog 43 #[.int .u32 x.toNat, .int .i64 z] w fun e w' => e = .returned (.int .u32 (rotr x z.toNat).toNat) ∧ ∃ k, w' = w.drewN k := by
  obtain ⟨n, rfl⟩ := Int.eq_ofNat_of_zero_le (Int.le_of_lt h0)
  exact rotated_any x n (by omega) (by omega) w
theorem quiet_dr {P : Program} {f : FuncId} {args : Array Value} {w : World} {n : Nat} {v : Value}
    (h : Calls P f args (w.drewN n) fun e w' => e = .returned v ∧ ∃ k, w' = (w.drewN n).drewN k) : Calls P f args (w.drewN n) fun e w'' => e = .returned v ∧ ∃ m, w'' = w.drewN m :=
  h.mono fun _ _ ⟨he, k, hk⟩ => ⟨he, n + k, by rw [hk, World.drewN_drewN]⟩
theorem row8 {w : World} {g : Nat} {t : TypeId} {v0 v1 v2 v3 v4 v5 v6 v7 : Value} (h : w.heap[g]? = some (.cells #[v0, v1, v2, v3, v4, v5, v6, v7] t (0, 0))) :
    (w.cell? ⟨g, 0, none⟩ = some v0 ∧ w.cell? ⟨g, 1, none⟩ = some v1 ∧ w.cell? ⟨g, 2, none⟩ = some v2 ∧ w.cell? ⟨g, 3, none⟩ = some v3 ∧ w.cell? ⟨g, 4, none⟩ = some v4 ∧ w.cell? ⟨g, 5, none⟩ = some v5 ∧ w.cell? ⟨g, 6, none⟩ = some v6 ∧ w.cell? ⟨g, 7, none⟩ = some v7) ∧
    (w.frozen? ⟨g, 0, none⟩ = false ∧ w.frozen? ⟨g, 1, none⟩ = false ∧ w.frozen? ⟨g, 2, none⟩ = false ∧ w.frozen? ⟨g, 3, none⟩ = false ∧ w.frozen? ⟨g, 4, none⟩ = false ∧ w.frozen? ⟨g, 5, none⟩ = false ∧ w.frozen? ⟨g, 6, none⟩ = false ∧ w.frozen? ⟨g, 7, none⟩ = false) :=
  ⟨⟨cell_of_row w g 0 _ t (0, 0) h, cell_of_row w g 1 _ t (0, 0) h, cell_of_row w g 2 _ t (0, 0) h, cell_of_row w g 3 _ t (0, 0) h, cell_of_row w g 4 _ t (0, 0) h, cell_of_row w g 5 _ t (0, 0) h, cell_of_row w g 6 _ t (0, 0) h, cell_of_row w g 7 _ t (0, 0) h⟩,
    ⟨frozen_of_row w g 0 _ t h, frozen_of_row w g 1 _ t h, frozen_of_row w g 2 _ t h, frozen_of_row w g 3 _ t h, frozen_of_row w g 4 _ t h, frozen_of_row w g 5 _ t h, frozen_of_row w g 6 _ t h, frozen_of_row w g 7 _ t h⟩⟩
def zeros8 : Array Value := #[.int .u32 0, .int .u32 0, .int .u32 0, .int .u32 0, .int .u32 0, .int .u32 0, .int .u32 0, .int .u32 0]

set_option maxRecDepth 100000 in
set_option maxHeartbeats 1000000 in
theorem rounds_any (s : St) (b off : Nat) (ws : List UInt32) (hl : ws.length = 64) (w : World) (hT : Tab w) (hb : b < w.heap.size)
    (hw : ∀ t x, ws[t]? = some x → w.cell? ⟨b, off + t, none⟩ = some (.int .u32 x.toNat)) :
    Calls Tryd.prog 38 #[stv s, .pointer (some ⟨b, off, none⟩)] w fun e w' => e = .returned (stv (rounds s ws 64)) ∧ Below w.heap.size w w' := by
  unfold stv
  go_enter Tryd.func38, Tryd.ntmps38
  go_wp2
  go_quiet (fail)
  go_wp2
  go_quiet (fail)
  go_wp2
  go_loopw [5, 6, 7, 8, 9, 10, 11, 12, 34] (fun v5 v6 v7 v8 v9 v10 v11 v12 i wr => ∃ k : Nat, k ≤ 64 ∧ i = .int .i64 k ∧ ∃ S : St, Hid (S = rounds s ws k) ∧ v5 = .int .u32 S.a.toNat ∧ v6 = .int .u32 S.b.toNat ∧ v7 = .int .u32 S.c.toNat ∧
      v8 = .int .u32 S.d.toNat ∧ v9 = .int .u32 S.e.toNat ∧ v10 = .int .u32 S.f.toNat ∧ v11 = .int .u32 S.g.toNat ∧ v12 = .int .u32 S.h.toNat ∧ Below w.heap.size w wr ∧ Hid (wr.heap[w.heap.size + 1]? = some (.cells zeros8 43 (0, 0))))
    (fun _ _ _ _ _ _ _ _ i _ => 64 - (intOf i).toNat)
  case atStart =>
    refine ⟨0, by omega, rfl, s, hid rfl, rfl, rfl, rfl, rfl, rfl, rfl, rfl, rfl, ?_, ?_⟩
    · exact below_drewN (below_drewN (((Below.refl _ _).alloc (Nat.le_refl _) _).alloc (by simp) _) _) _
    · refine hid ?_
      have hz := heap_alloc_new (w.alloc (.cells #[.int .u32 s.a.toNat, .int .u32 s.b.toNat, .int .u32 s.c.toNat, .int .u32 s.d.toNat, .int .u32 s.e.toNat, .int .u32 s.f.toNat, .int .u32 s.g.toNat, .int .u32 s.h.toNat] 43)) (.cells zeros8 43)
      rw [World.size_alloc] at hz
      exact hz
  case round =>
    obtain ⟨k, hk, rfl, S, hS, rfl, rfl, rfl, rfl, rfl, rfl, rfl, rfl, hbel, hblk⟩ := hrel
    obtain ⟨a, b1, c, d, e, f, g, h8⟩ := S
    dsimp only at *
    by_cases hlt : k < 64
    · obtain ⟨x, hx⟩ : ∃ x, ws[k]? = some x := ⟨ws[k], by simp [hl, hlt]⟩
      obtain ⟨t, ht⟩ : ∃ t, t = kWords.getD k 0 := ⟨_, rfl⟩
      have c1 : wr.cell? ⟨0, k, none⟩ = some (.int .u32 t.toNat) := by rw [ht]; exact hT.below hT.pos hbel k hlt
      have c2 : wr.cell? ⟨b, off + k, none⟩ = some (.int .u32 x.toNat) := (hbel.cell (p := ⟨b, off + k, none⟩) hb).trans (hw k x hx)
      have HX := hid hx
      have HT := hid ht
      clear hx ht
      have hk0 : (0 : Int) ≤ (k : Int) := Int.natCast_nonneg _
      have hk1 : (k : Int) < 64 := by omega
      obtain ⟨C, hC⟩ : ∃ C, C = choice e f g := ⟨_, rfl⟩
      obtain ⟨M, hM⟩ : ∃ M, M = major a b1 c := ⟨_, rfl⟩
      obtain ⟨E, hE⟩ : ∃ E, E = bigE e := ⟨_, rfl⟩
      obtain ⟨F, hF⟩ : ∃ F, F = bigA a := ⟨_, rfl⟩
      have k1 : bits .xor .u32 (bits .and .u32 (e.toNat : Int) (f.toNat : Int)) (bits .and .u32 (bits .xor .u32 IntKind.u32.max (e.toNat : Int)) (g.toNat : Int)) = (C.toNat : Int) := by
        rw [u_not, u_and, u_and, u_xor, hC]; rfl
      have k2 : bits .xor .u32 (bits .xor .u32 (bits .and .u32 (a.toNat : Int) (b1.toNat : Int)) (bits .and .u32 (a.toNat : Int) (c.toNat : Int))) (bits .and .u32 (b1.toNat : Int) (c.toNat : Int)) = (M.toNat : Int) := by
        rw [u_and, u_and, u_and, u_xor, u_xor, hM]; rfl
      have k3 : bits .xor .u32 (bits .xor .u32 ((rotr e 6).toNat : Int) ((rotr e 11).toNat : Int)) ((rotr e 25).toNat : Int) = (E.toNat : Int) := by
        rw [u_xor, u_xor, hE]; rfl
      have k4 : bits .xor .u32 (bits .xor .u32 ((rotr a 2).toNat : Int) ((rotr a 13).toNat : Int)) ((rotr a 22).toNat : Int) = (F.toNat : Int) := by
        rw [u_xor, u_xor, hF]; rfl
      have HC := hid hC
      have HM := hid hM
      have HE := hid hE
      have HF := hid hF
      clear hC hM hE hF
      go_wp2_with fail
      go_quiet ((go_at_call 43; exact quiet_dr (rotated_int _ _ (by omega) (by omega) _)))
      go_wp2_with (go_at_call 43; refine (rotated_int _ _ (by omega) (by omega) _).mono ?_; rintro er wr' ⟨rfl, qr, rfl⟩)
      have hS' := hS.out
      rw [sum5, sum2, sum2, sum2, HF.out, HM.out, HE.out, HC.out, HT.out]
      go_roundw
      case rel =>
        refine ⟨k + 1, by omega, by go_num, step ⟨a, b1, c, d, e, f, g, h8⟩ (kWords.getD k 0) x, hid ?_, rfl, rfl, rfl, rfl, rfl, rfl, rfl, rfl, below_drewN hbel _, hid hblk.out⟩
        show _ = step (rounds s ws k) (kWords.getD k 0) (ws.getD k 0)
        rw [← hS', List.getD_eq_getElem?_getD (l := ws), HX.out]
        rfl
      case measure => simp [intOf]; omega
    · obtain rfl : k = 64 := by omega
      have hz := hblk.out
      obtain ⟨⟨z0, z1, z2, z3, z4, z5, z6, z7⟩, y0, y1, y2, y3, y4, y5, y6, y7⟩ := row8 hz
      have HZ := hid hz
      clear hz hblk
      go_wp2
      refine bodyPost_ret (v := stv ⟨a, b1, c, d, e, f, g, h8⟩) (by simp [results, Tryd.results38, go_sem, stv, z0, z1, z2, z3, z4, z5, z6, z7]) rfl ⟨by rw [hS.out]; rfl, ?_⟩
      repeat' (refine Below.setCell ?_ (by simp) _)
      exact hbel
end Go.Proofs.YtdmglanepjhdoaaDoor.Sh
