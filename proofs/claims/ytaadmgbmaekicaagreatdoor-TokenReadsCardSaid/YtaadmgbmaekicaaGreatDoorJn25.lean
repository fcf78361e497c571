/-
  Slices of slices of bytes in memory; few and cut of layer 2's statements, Joined of the document's own answers, by contract.
-/
import Derived.Test.YtaadmgbmaekicaaGreatDoorJn10
import Derived.Test.YtaadmgbmaekicaaGreatDoorJn17
import Derived.Test.YtaadmgbmaekicaaGreatDoorJn21
import Derived.Test.YtaadmgbmaekicaaGreatDoorJn24
import Derived.Test.YtaadmgbmaekicaaGreatDoorJn2
import Derived.Maps.AppendAt
import Derived.Laws.ByValue
set_option linter.unusedVariables false
set_option linter.unusedSimpArgs false
namespace Go.Proofs.YtaadmgbmaekicaaGreatDoor.Sh
open Go Go.RowKit
attribute [local irreducible] sha hexOf absorb sched rounds

/-- A part: where it lies, its capacity, its bytes. -/
abbrev Part := Option Addr × Nat × List UInt8
def pv (p : Part) : Value := .slice p.1 p.2.2.length p.2.1
/-- What is asked of a part: that it reads. -/
def PartOk (w : World) (B : Nat) (p : Part) : Prop := p.2.2.length ≤ p.2.1 ∧ p.2.1 ≤ 9223372036854775807 ∧ Byt w B p.1 p.2.2
def RowsAt (w : World) (B : Nat) (A : Option Addr) (ps : List Part) : Prop :=
  0 < ps.length → ∃ ad, A = some ad ∧ ad.block < B ∧ ∀ j p, ps[j]? = some p → w.cell? (ad.add j) = some (pv p) ∧ PartOk w B p
def flat (ps : List Part) : List UInt8 := ps.flatMap (·.2.2)
theorem PartOk.below {w w' : World} {B : Nat} {p : Part} (h : PartOk w B p) (hb : Below B w w') : PartOk w' B p := ⟨h.1, h.2.1, h.2.2.below hb⟩
theorem PartOk.more {w : World} {B B' : Nat} {p : Part} (h : PartOk w B p) (hB : B ≤ B') : PartOk w B' p := ⟨h.1, h.2.1, h.2.2.more hB⟩
theorem RowsAt.below {w w' : World} {B : Nat} {A : Option Addr} {ps : List Part} (h : RowsAt w B A ps) (hb : Below B w w') : RowsAt w' B A ps := fun hn => by
  obtain ⟨ad, e, hlt, hc⟩ := h hn
  exact ⟨ad, e, hlt, fun j p hp => ⟨(hb.cell (by rw [block_add]; exact hlt)).trans (hc j p hp).1, (hc j p hp).2.below hb⟩⟩
theorem RowsAt.more {w : World} {B B' : Nat} {A : Option Addr} {ps : List Part} (h : RowsAt w B A ps) (hB : B ≤ B') : RowsAt w B' A ps := fun hn => by
  obtain ⟨ad, e, hlt, hc⟩ := h hn
  exact ⟨ad, e, by omega, fun j p hp => ⟨(hc j p hp).1, (hc j p hp).2.more hB⟩⟩
theorem RowsAt.drewN {w : World} {B : Nat} {A : Option Addr} {ps : List Part} (h : RowsAt w B A ps) (n : Nat) : RowsAt (w.drewN n) B A ps := h
theorem RowsAt.get {w : World} {B : Nat} {A : Option Addr} {ps : List Part} {k : Nat} (h : RowsAt w B A ps) (hk : k < ps.length) :
    ∃ ad p, A = some ad ∧ ad.block < B ∧ ps[k]? = some p ∧ w.cell? (ad.add k) = some (pv p) ∧ PartOk w B p := by
  obtain ⟨ad, e, hb, hc⟩ := h (by omega)
  exact ⟨ad, ps[k], e, hb, List.getElem?_eq_getElem hk, hc k _ (List.getElem?_eq_getElem hk)⟩
theorem RowsAt.nil (w : World) (B : Nat) (A : Option Addr) : RowsAt w B A [] := fun h => absurd h (by simp)

theorem info_rows : (Tryz.prog.info? 22).map (fun i => (i.zero, i.size, i.bytes)) = some (some (.slice none 0 0), 1, 24) := by kernel_rfl
theorem slR : SlT Tryz.prog 85 22 24 := by
  obtain ⟨i0, hi0, hz0, hz1, hz2⟩ := info_parts info_rows
  exact ⟨Tryz.underlying85, i0, _, hi0, hz0, hz1, hz2, rfl⟩
/-- Rows of the call's own. -/
def OwnR (w : World) (B : Nat) (v : Value) (n : Nat) (ps : List Part) : Prop := w.ownsRow B 22 1 v n (ps.map pv)
theorem OwnR.nil (w : World) (B : Nat) : OwnR w B (.slice none 0 0) 0 [] := World.ownsRow_nil _ _ _ _
theorem OwnR.alloc {w : World} {B n : Nat} {v : Value} {ps : List Part} (h : OwnR w B v n ps) (o : Obj) : OwnR (w.alloc o) B v n ps := World.ownsRow.alloc h o
theorem OwnR.len {w : World} {B n : Nat} {v : Value} {ps : List Part} (h : OwnR w B v n ps) : ps.length = n := by have := h.1; simp at this; omega
theorem OwnR.rows {w : World} {B n c : Nat} {A : Option Addr} {ps : List Part} (h : OwnR w B (.slice A n c) n ps) (hp : ∀ p ∈ ps, PartOk w w.heap.size p) : RowsAt w w.heap.size A ps := fun hn => by
  have hl := h.len
  obtain ⟨g, cap, hv, _, hlt⟩ := h.form (by omega)
  have hA : A = some ⟨g, 0, none⟩ := by injection hv
  subst hA
  exact ⟨_, rfl, hlt, fun j p hj => ⟨h.cells (g := g) rfl j _ (by simp [hj]), hp p (List.mem_of_getElem? hj)⟩⟩
theorem reads_part (w : World) (p : Part) (t : TypeId) (fr : Nat × Nat) : Reads (w.alloc (.cells #[pv p] t fr)) (some ⟨w.heap.size, 0, none⟩) [pv p] := reads_new w #[pv p] t fr

/-- What cut does to a part. -/
def cutPart (p : Part) : Part := (p.1, p.2.1, p.2.2.take 60)
theorem cutPart_ok {w : World} {B : Nat} {p : Part} (h : PartOk w B p) : PartOk w B (cutPart p) :=
  ⟨by have := h.1; show (p.2.2.take 60).length ≤ p.2.1; rw [List.length_take]; omega, h.2.1, h.2.2.head⟩
def cutAll (ps : List Part) : List Part := (ps.take 6).map cutPart
theorem cutAll_ok {w : World} {B : Nat} {A : Option Addr} {ps : List Part} (h : RowsAt w B A ps) : ∀ p ∈ cutAll ps, PartOk w B p := by
  intro p hp
  obtain ⟨q, hq, rfl⟩ := List.mem_map.1 hp
  have hq' := List.mem_of_mem_take hq
  obtain ⟨j, hj⟩ := List.getElem?_of_mem hq'
  obtain ⟨_, _, _, hc⟩ := h (Nat.lt_of_le_of_lt (Nat.zero_le _) (List.getElem?_eq_some_iff.1 hj).1)
  exact cutPart_ok (hc j q hj).2
theorem cutAll_length (ps : List Part) : (cutAll ps).length = min 6 ps.length := by simp [cutAll]
theorem flat_le : ∀ (ps : List Part) (m : Nat), (∀ p ∈ ps, p.2.2.length ≤ m) → (flat ps).length ≤ ps.length * m
  | [], _, _ => by simp [flat]
  | p :: ps, m, h => by
    have h1 := h p (by simp)
    have h2 := flat_le ps m fun q hq => h q (by simp [hq])
    simp only [flat, List.flatMap_cons, List.length_append, List.length_cons, Nat.add_mul, Nat.one_mul] at h2 ⊢
    omega
theorem cutAll_flat (ps : List Part) : (flat (cutAll ps)).length ≤ 360 := by
  have h := flat_le (cutAll ps) 60 (fun p hp => by
    obtain ⟨q, _, rfl⟩ := List.mem_map.1 hp
    show (q.2.2.take 60).length ≤ 60
    exact List.length_take_le _ _)
  have h2 := cutAll_length ps
  have h3 : (cutAll ps).length * 60 ≤ 6 * 60 := Nat.mul_le_mul_right _ (by omega)
  omega

theorem take_map_succ {ps : List Part} {k : Nat} {p : Part} (h : ps[k]? = some p) : (ps.take (k + 1)).map cutPart = (ps.take k).map cutPart ++ [cutPart p] := by
  rw [take_snoc_of h]; simp
theorem flat_succ {ps : List Part} {k : Nat} {p : Part} (h : ps[k]? = some p) : flat (ps.take (k + 1)) = flat (ps.take k) ++ p.2.2 := by
  rw [take_snoc_of h]; simp [flat]
theorem flat_take_le (ps : List Part) (k : Nat) : (flat (ps.take k)).length ≤ (flat ps).length := by
  have h : flat ps = flat (ps.take k) ++ flat (ps.drop k) := by
    unfold flat
    rw [← List.flatMap_append, List.take_append_drop]
  rw [h, List.length_append]; omega

end Go.Proofs.YtaadmgbmaekicaaGreatDoor.Sh
/-
  append once more, with where the new row lies: for two rows of the call's own side by side.
-/
namespace Go.Proofs.YtaadmgbmaekicaaGreatDoor.Sh
open Go Go.RowKit

end Go.Proofs.YtaadmgbmaekicaaGreatDoor.Sh
/-
  The program's side of layer 2: joined, masker and what it makes, Tag, by contract.
-/
namespace Go.Proofs.YtaadmgbmaekicaaGreatDoor.Sh
open Go Go.RowKit
attribute [local irreducible] sha hexOf absorb sched rounds
set_option maxHeartbeats 1000000 in
theorem joined_any (A R : Option Addr) (l : List UInt8) (ps : List Part) (n c r rc : Nat) (hl : l.length = n) (hr : ps.length = r) (hm : r ≤ 9223372036854775807) (hfl : n + (flat ps).length ≤ 1099511627776) (w : World) (hb : Byt w w.heap.size A l) (h : RowsAt w w.heap.size R ps) :
    Calls Tryz.prog 54 #[.slice A n c, .slice R r rc] w fun e w' => ∃ A' N c', e = .returned (.slice A' N c') ∧ (l ++ flat ps).length = N ∧ OwnB w' w.heap.size (.slice A' N c') N (l ++ flat ps) ∧ Below w.heap.size w w' := by
  obtain ⟨i0, hi0, hz0, hz1, hz2⟩ := info_parts info_u8
  have HL := hid hl
  have HR := hid hr
  clear hl hr
  go_enter Tryz.func54, Tryz.ntmps54
  go_wp2
  go_loop [5, 15] (fun s i => ∃ k S : Nat, k ≤ r ∧ i = .int .i64 k ∧ s = .int .i64 S ∧ Hid (S = n + (flat (ps.take k)).length)) (fun _ i => r - (intOf i).toNat)
  case atStart => exact ⟨0, n, by omega, rfl, rfl, hid rfl⟩
  case round =>
    obtain ⟨k, S, hk, rfl, rfl, HS⟩ := hrel
    by_cases hlt : k < r
    · obtain ⟨ad, p, rfl, had, hp, hcell, hok⟩ := h.get (k := k) (by rw [HR.out]; exact hlt)
      obtain ⟨pa, pc, pl⟩ := p
      obtain ⟨m, hm'⟩ : ∃ m, pl.length = m := ⟨_, rfl⟩
      have hcell' : w.cell? (ad.add k) = some (.slice pa m pc) := by rw [← hm']; exact hcell
      have hS : S + m ≤ 1099511627776 := by
        have h1 := HS.out
        have h2 := flat_take_le ps (k + 1)
        rw [flat_succ hp, List.length_append] at h2
        have h3 : (pa, pc, pl).2.2.length = m := hm'
        omega
      have HS' : Hid (S + m = n + (flat (ps.take (k + 1))).length) := hid (by rw [flat_succ hp, List.length_append, HS.out, hm', Nat.add_assoc])
      have hk0 : (0 : Int) ≤ (k : Int) := Int.natCast_nonneg _
      have hk1 : (k : Int) < (r : Int) := by omega
      clear hp hm' hok hcell had
      go_wp2
      go_round
      case rel => exact ⟨k + 1, S + m, by omega, by go_num, by go_num, HS'⟩
      case measure => simp [intOf]; omega
    · obtain rfl : r = k := by omega
      have hS : S ≤ 1099511627776 := by have h1 := HS.out; have h2 := flat_take_le ps r; omega
      clear HS
      go_wp2_with (first
        | (at_make; refine wpList_make_own _ rfl _ _ 22 rfl w.heap.size 5 i0 (.int .u8 0) 1 Tryz.underlying22 hi0 hz0 hz1 .i64 .i64 _ S rfl rfl (by omega) (by rw [hz2]; omega) (by unfold maxLen; omega) (Nat.le_refl _) ?_; intro w1 hown1 hg1; have bel1 : Below w.heap.size w w1 := (Below.refl _ _).grown hg1 (Nat.le_refl _) (by simp); have rd1 := ((hb.below bel1).reads); have hown2 : OwnB w1 w.heap.size _ 0 [] := hown1; clear hown1 hg1)
        | (at_builtin; (refine wpList_appB rfl (.tmp 25) (.tmp 26) rfl w.heap.size _ 0 [] hown2 rfl A n c l rfl HL.out rd1 (by omega) bel1.size w bel1 n (by omega) ?_; intro A2 c2 w2 own2 _ bel2; clear hown2 rd1 bel1)))
      go_loopw [8, 30] (fun v i wr => ∃ (k N : Nat) (A' : Option Addr) (c' : Nat), k ≤ r ∧ i = .int .i64 k ∧ v = .slice A' N c' ∧ OwnB wr w.heap.size v N (l ++ flat (ps.take k)) ∧ Below w.heap.size w wr) (fun _ i _ => r - (intOf i).toNat)
      case atStart => exact ⟨0, n, A2, c2, by omega, rfl, rfl, by simpa [flat] using own2, bel2⟩
      case round =>
        clear own2 bel2
        obtain ⟨k, N, A', c', hk, rfl, rfl, own, bel⟩ := hrel
        by_cases hlt : k < r
        · obtain ⟨ad, p, rfl, had, hp, hcell, hok⟩ := (h.below bel).get (k := k) (by rw [HR.out]; exact hlt)
          obtain ⟨pa, pc, pl⟩ := p
          obtain ⟨m, hm'⟩ : ∃ m, pl.length = m := ⟨_, rfl⟩
          have hcell' : wr.cell? (ad.add k) = some (.slice pa m pc) := by rw [← hm']; exact hcell
          have hsum : N + m ≤ 1099511627776 := by
            have h1 := own.len
            have h2 := flat_take_le ps (k + 1)
            rw [flat_succ hp, List.length_append] at h2
            rw [List.length_append, HL.out] at h1
            have h3 : (pa, pc, pl).2.2.length = m := hm'
            omega
          have HP := hid hp
          have HM := hid hm'
          have hrd := hok.2.2.reads
          have hk0 : (0 : Int) ≤ (k : Int) := Int.natCast_nonneg _
          have hk1 : (k : Int) < (r : Int) := by omega
          clear hp hm' hok hcell had
          go_wp2_with (at_builtin; (refine wpList_appB rfl (.tmp 34) (.tmp 35) rfl w.heap.size (.slice A' N c') N _ own rfl pa m pc pl rfl HM.out hrd (by omega) bel.size w bel (N + m) rfl ?_; intro A4 c4 w4 own4 _ bel4))
          have HR4 : Hid (OwnB w4 w.heap.size (.slice A4 (N + m) c4) (N + m) (l ++ flat (ps.take (k + 1)))) := hid (by rw [flat_succ HP.out, ← List.append_assoc]; exact own4)
          clear own4 own bel hcell' hrd
          go_roundw
          case rel => exact ⟨k + 1, N + m, A4, c4, by omega, by go_num, rfl, HR4.out, bel4⟩
          case measure => simp [intOf]; omega
        · obtain rfl : r = k := by omega
          rw [List.take_of_length_le (by rw [HR.out]; omega)] at own
          have HO := hid own
          clear own h
          go_wp2
          go_ret
          exact ⟨A', N, c', rfl, by have h := HO.out.len; simpa using h, HO.out, bel⟩

/-- What masker makes: block g holds the padded key. -/
def Masks (w : World) (g : Nat) (k : List UInt8) : Prop := w.heap[g]? = some (.cells (bv k).toArray 118 (0, 0))
theorem Masks.below {w w' : World} {g : Nat} {k : List UInt8} {B : Nat} (h : Masks w g k) (hg : g < B) (hb : Below B w w') : Masks w' g k := (hb.block g hg).trans h
theorem Masks.lt {w : World} {g : Nat} {k : List UInt8} (h : Masks w g k) : g < w.heap.size := (Array.getElem?_eq_some_iff.1 h).1
def zb64 : Array Value := (bv (List.replicate 64 0)).toArray
theorem new64 (w : World) : (Instr.alloc 118 true (.tuple #[])).run Tryz.prog w = .ok (.pointer (some ⟨w.heap.size, 0, none⟩)) (w.alloc (.cells zb64 118)) := by kernel_rfl
theorem zb64_block (w : World) (e : TypeId) : (w.alloc (.cells zb64 e)).heap[w.heap.size]? = some (.cells (bv (List.replicate 64 0)).toArray e (0, 0)) := heap_alloc_new w _
theorem pad_splice (k : List UInt8) (m : Nat) : splice (bv (List.replicate m 0)) 0 (bv k) = bv (k ++ List.replicate (m - k.length) 0) := by
  simp [splice, bv]

set_option maxHeartbeats 1000000 in
theorem masker_any (A : Option Addr) (l : List UInt8) (n c : Nat) (hl : l.length = n) (hc : n ≤ c) (hcm : c ≤ 9223372036854775807) (hL : n ≤ 1099511627776) (w : World) (hT : Tab w) (hb : Byt w w.heap.size A l) :
    Calls Tryz.prog 52 #[.slice A n c] w fun e w' => ∃ g, e = .returned (.func (.func 99) #[] #[.pointer (some ⟨g, 0, none⟩)]) ∧ w.heap.size ≤ g ∧ Masks w' g (keyPad l) ∧ Below w.heap.size w w' := by
  have hmf : ∀ (fn : Fn) (first cap : Array Value) (w : World), (Instr.makeFunc fn first cap).run Tryz.prog w = .ok (.func fn first cap) w := fun _ _ _ _ => rfl
  have m1 := new64
  by_cases h64 : 64 < n
  · have HS := hid (sum_any A l c (by omega) hcm (by omega) w hT hb)
    rw [hl] at HS
    have hK : Hid (keyPad l = sha l ++ List.replicate (64 - (sha l).length) 0) := hid (by unfold keyPad; rw [if_pos (by omega)])
    have hsl := sha_length l
    obtain ⟨k, hk⟩ : ∃ k, k = sha l := ⟨_, rfl⟩
    rw [← hk] at HS hK hsl
    have HSL := hid hsl
    clear hk hsl hl hb hT
    go_enter Tryz.func52, Tryz.ntmps52
    go_wp2_with fail
    refine HS.out.mono ?_
    rintro er w1 ⟨v1, rfl, t1⟩
    obtain ⟨A1, c1, rfl, hc1, y1, b1, _⟩ := t1.at HSL.out
    clear HS t1
    have CL : Hid ((bv k).length = Nat.min 32 64) := hid (by rw [bv_length, HSL.out]; rfl)
    have CF : Hid (0 + (bv k).length ≤ (bv (List.replicate 64 (0 : UInt8))).length) := hid (by rw [bv_length, bv_length, HSL.out, List.length_replicate]; omega)
    go_wp2_with (with_reducible refine wpList_copy_splice rfl (.tmp 9) (.tmp 10) 22 22 rfl 5 Tryz.underlying22 info_u8s (some ⟨w1.heap.size, 0, none⟩) A1 64 64 32 c1 rfl rfl w1.heap.size 0 (bv (List.replicate 64 0)) 118 (zb64_block _ _) (bv k) CL.out (copy_src y1 _) CF.out (bv_one k) w.heap.size w (b1.alloc b1.size _) b1.size ?_; intro w2 hw2 b2)
    have hM : Hid (Masks w2 w1.heap.size (keyPad l)) := hid (by
      have h := hw2.out
      rw [pad_splice] at h
      rw [hK.out]
      exact h)
    clear hw2
    have hgb := b1.size
    clear b1 CL CF y1
    go_wp2
    go_ret
    exact ⟨_, rfl, hgb, hM.out, b2⟩
  · have hK : Hid (keyPad l = l ++ List.replicate (64 - l.length) 0) := hid (by unfold keyPad; rw [if_neg (by omega)])
    have CL : Hid ((bv l).length = Nat.min n 64) := hid (by rw [bv_length, hl]; exact (Nat.min_eq_left (by omega)).symm)
    have CF : Hid (0 + (bv l).length ≤ (bv (List.replicate 64 (0 : UInt8))).length) := hid (by rw [bv_length, bv_length, List.length_replicate]; omega)
    have bw : Below w.heap.size w w := Below.refl _ _
    clear hl hT
    go_enter Tryz.func52, Tryz.ntmps52
    go_wp2_with (with_reducible refine wpList_copy_splice rfl (.tmp 9) (.tmp 10) 22 22 rfl 5 Tryz.underlying22 info_u8s (some ⟨w.heap.size, 0, none⟩) A 64 64 n c rfl rfl w.heap.size 0 (bv (List.replicate 64 0)) 118 (zb64_block _ _) (bv l) CL.out (copy_src hb _) CF.out (bv_one l) w.heap.size w (bw.alloc bw.size _) bw.size ?_; intro w2 hw2 b2)
    have hM : Hid (Masks w2 w.heap.size (keyPad l)) := hid (by
      have h := hw2.out
      rw [pad_splice] at h
      rw [hK.out]
      exact h)
    clear hw2 CL CF bw hb
    go_wp2
    go_ret
    exact ⟨_, rfl, Nat.le_refl _, hM.out, b2⟩
theorem info_arr64 : (Tryz.prog.info? 118).map (·.size) = some 64 := by kernel_rfl
theorem index_b (k : List UInt8) (j : Nat) (y : UInt8) (hy : k[j]? = some y) (hj : j < 64) (w : World) :
    (Instr.index 118 (.agg (bv k).toArray) (.int .i64 j)).run Tryz.prog w = .ok (.int .u8 y.toNat) w := by
  obtain ⟨i0, hi0, hz0, hz1, hz2⟩ := info_parts info_u8
  have hx : (bv k)[j]? = some (.int .u8 y.toNat) := by simp [bv, hy]
  simp [Instr.index, asIntOf, run_underlying Tryz.underlying118, sizeOf, typeInfo, hi0, hz1, go_sem, hx, hj]
def half (k : List UInt8) (x : UInt8) (j : Nat) : List UInt8 := xorAll (k.take j) x ++ List.replicate (64 - j) 0
theorem half_set {k : List UInt8} {x y : UInt8} {j : Nat} (hy : k[j]? = some y) (hj : j < 64) (hk : k.length = 64) : (half k x j).set j (y ^^^ x) = half k x (j + 1) := by
  unfold half xorAll
  rw [take_snoc_of hy, List.set_append_right _ _ (by simp; omega)]
  have h1 : j - (List.map (fun x_1 => x_1 ^^^ x) (List.take j k)).length = 0 := by simp; omega
  rw [h1, show 64 - j = (64 - (j + 1)) + 1 by omega, List.replicate_succ, List.set_cons_zero]
  simp
theorem half_length {k : List UInt8} {x : UInt8} {j : Nat} (hj : j ≤ 64) (hk : k.length = 64) : (half k x j).length = 64 := by
  unfold half xorAll; simp; omega
theorem half_zero (k : List UInt8) (x : UInt8) : half k x 0 = List.replicate 64 0 := by unfold half xorAll; simp
theorem half_full {k : List UInt8} {x : UInt8} (hk : k.length = 64) : half k x 64 = xorAll k x := by
  unfold half; rw [List.take_of_length_le (by omega)]; simp

set_option maxHeartbeats 1000000 in
theorem masked_any (x : UInt8) (g : Nat) (k : List UInt8) (hk : k.length = 64) (w : World) (h : Masks w g k) :
    Calls Tryz.prog 99 #[.int .u8 x.toNat, .pointer (some ⟨g, 0, none⟩)] w fun e w' => ∃ A c, e = .returned (.slice A 64 c) ∧ OwnB w' w.heap.size (.slice A 64 c) 64 (xorAll k x) ∧ Below w.heap.size w w' := by
  have m1 := make64
  have HK := hid hk
  have hg : g < w.heap.size := h.lt
  have hsz : Hid ((Tryz.prog.info? 118).map (·.size) = some (bv k).toArray.size) := hid (by rw [List.size_toArray, bv_length, hk]; exact info_arr64)
  have hrow : Hid ((w.alloc (.cells (zb 64) 5)).heap[g]? = some (.cells (bv k).toArray 118 (0, 0))) := hid (Masks.below h hg ((Below.refl _ _).alloc (Nat.le_refl _) _))
  have b1 : Below w.heap.size w (w.alloc (.cells (zb 64) 5)) := (Below.refl _ _).alloc (Nat.le_refl _) _
  have hz : Hid ((w.alloc (.cells (zb 64) 5)).heap[w.heap.size]? = some (.cells (bv (half k x 0)).toArray 5 (0, 0))) := hid (by rw [half_zero]; exact zb_block _ _ _)
  clear hk h
  go_enter Tryz.func99, Tryz.ntmps99
  go_wp2_with (refine wpList_load_row rfl 118 (.tmp 1) rfl g rfl 118 (bv k).toArray (0, 0) _ hrow.out Tryz.underlying118 rfl hsz.out ?_)
  go_loopw [9] (fun i wr => ∃ j : Nat, j ≤ 64 ∧ i = .int .i64 j ∧ Hid (wr.heap[w.heap.size]? = some (.cells (bv (half k x j)).toArray 5 (0, 0))) ∧ Below w.heap.size w wr) (fun i _ => 64 - (intOf i).toNat)
  case atStart => exact ⟨0, by omega, rfl, hz, b1⟩
  case round =>
    clear hz b1 hrow hsz
    obtain ⟨j, hj, rfl, hz, b1⟩ := hrel
    by_cases hlt : j < 64
    · obtain ⟨y, hy⟩ : ∃ y, k[j]? = some y := ⟨k[j]'(by rw [HK.out]; exact hlt), List.getElem?_eq_getElem _⟩
      have hix := index_b k j y hy hlt
      have hxor := b_xor y x
      have fz := frozen_of_row wr w.heap.size j _ _ hz.out
      obtain ⟨cv, hcv⟩ := row_cell (j := j) hz.out (by rw [bv_length, half_length (by omega) HK.out]; omega)
      have hw2 : Hid ((wr.setCell ⟨w.heap.size, j, none⟩ (.int .u8 (y ^^^ x).toNat)).heap[w.heap.size]? = some (.cells (bv (half k x (j + 1))).toArray 5 (0, 0))) := by
        have := heap_setCell_same wr w.heap.size j _ _ (.int .u8 (y ^^^ x).toNat) hz.out
        rw [List.setIfInBounds_toArray, bv_set, half_set hy hlt HK.out] at this
        exact hid this
      have b2 := b1.setCell (p := ⟨w.heap.size, j, none⟩) (Nat.le_refl _) (.int .u8 (y ^^^ x).toNat)
      have hk0 : (0 : Int) ≤ (j : Int) := Int.natCast_nonneg _
      have hk1 : (j : Int) < 64 := by omega
      clear hy hz b1
      go_wp2
      go_roundw
      case rel => exact ⟨j + 1, by omega, by go_num, hw2, b2⟩
      case measure => simp [intOf]; omega
    · obtain rfl : j = 64 := by omega
      rw [half_full HK.out] at hz
      have ho : OwnB wr w.heap.size (.slice (some ⟨w.heap.size, 0, none⟩) 64 64) 64 (xorAll k x) := own_of_block hz.out (Nat.le_refl _) (by rw [bv_length, xorAll_length, HK.out]) (by unfold maxLen; omega)
      have HO := hid ho
      clear hz ho
      go_wp2
      go_ret
      exact ⟨_, 64, rfl, HO.out, b1⟩
end Go.Proofs.YtaadmgbmaekicaaGreatDoor.Sh
