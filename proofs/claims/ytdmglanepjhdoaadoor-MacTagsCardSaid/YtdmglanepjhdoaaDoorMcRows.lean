/-
  Slices of slices of bytes in memory; few and cut of layer 2's statements, Joined of the document's own answers, by contract.
-/
import Derived.Test.YtdmglanepjhdoaaDoorMcMath
import Derived.Test.YtdmglanepjhdoaaDoorShApp
import Derived.Test.YtdmglanepjhdoaaDoorShSum
import Derived.Test.YtdmglanepjhdoaaDoorShRefS
import Derived.Test.YtdmglanepjhdoaaDoorShLawsW
namespace Go.Proofs.YtdmglanepjhdoaaDoor.Sh
open Go Go.RowKit
attribute [local irreducible] sha hexOf absorb sched rounds

/-- A part: where it lies, its capacity, its bytes. -/
abbrev Part := Option Addr × Nat × List UInt8
def pv (p : Part) : Value := .slice p.1 p.2.2.length p.2.1
/-- What is asked of a part: that it reads. -/
def PartOk (w : World) (B : Nat) (p : Part) : Prop := p.2.2.length ≤ p.2.1 ∧ p.2.1 ≤ 9223372036854775807 ∧ Byt w B p.1 p.2.2
def RowsAt (w : World) (B : Nat) (A : Option Addr) (ps : List Part) : Prop :=
  0 < ps.length → ∃ ad, A = some ad ∧ ad.block < B ∧ ∀ j p, ps[j]? = some p → w.cell? (ad.add j) = some (pv p) ∧ PartOk w B p
def flat (ps : List Part) : List UInt8 := ps.flatMap (·.2.2)
theorem PartOk.below {w w' : World} {B : Nat} {p : Part} (h : PartOk w B p) (hb : Below B w w') : PartOk w' B p := ⟨h.1, h.2.1, h.2.2.below hb⟩
theorem PartOk.more {w : World} {B B' : Nat} {p : Part} (h : PartOk w B p) (hB : B ≤ B') : PartOk w B' p := ⟨h.1, h.2.1, h.2.2.more hB⟩
theorem RowsAt.below {w w' : World} {B : Nat} {A : Option Addr} {ps : List Part} (h : RowsAt w B A ps) (hb : Below B w w') : RowsAt w' B A ps := fun hn => by
  obtain ⟨ad, e, hlt, hc⟩ := h hn
  exact ⟨ad, e, hlt, fun j p hp => ⟨(hb.cell (by rw [block_add]; exact hlt)).trans (hc j p hp).1, (hc j p hp).2.below hb⟩⟩
theorem RowsAt.more {w : World} {B B' : Nat} {A : Option Addr} {ps : List Part} (h : RowsAt w B A ps) (hB : B ≤ B') : RowsAt w B' A ps := fun hn => by
  obtain ⟨ad, e, hlt, hc⟩ := h hn
  exact ⟨ad, e, by omega, fun j p hp => ⟨(hc j p hp).1, (hc j p hp).2.more hB⟩⟩
theorem RowsAt.drewN {w : World} {B : Nat} {A : Option Addr} {ps : List Part} (h : RowsAt w B A ps) (n : Nat) : RowsAt (w.drewN n) B A ps := h
theorem RowsAt.get {w : World} {B : Nat} {A : Option Addr} {ps : List Part} {k : Nat} (h : RowsAt w B A ps) (hk : k < ps.length) :
    ∃ ad p, A = some ad ∧ ad.block < B ∧ ps[k]? = some p ∧ w.cell? (ad.add k) = some (pv p) ∧ PartOk w B p := by
  obtain ⟨ad, e, hb, hc⟩ := h (by omega)
  exact ⟨ad, ps[k], e, hb, List.getElem?_eq_getElem hk, hc k _ (List.getElem?_eq_getElem hk)⟩
theorem RowsAt.nil (w : World) (B : Nat) (A : Option Addr) : RowsAt w B A [] := fun h => absurd h (by simp)

theorem info_rows : (Tryd.prog.info? 22).map (fun i => (i.zero, i.size, i.bytes)) = some (some (.slice none 0 0), 1, 24) := by kernel_rfl
theorem slR : SlT Tryd.prog 29 22 24 := by
  obtain ⟨i0, hi0, hz0, hz1, hz2⟩ := info_parts info_rows
  exact ⟨Tryd.underlying29, i0, _, hi0, hz0, hz1, hz2, rfl⟩
/-- Rows of the call's own. -/
def OwnR (w : World) (B : Nat) (v : Value) (n : Nat) (ps : List Part) : Prop := w.ownsRow B 22 1 v n (ps.map pv)
theorem OwnR.nil (w : World) (B : Nat) : OwnR w B (.slice none 0 0) 0 [] := World.ownsRow_nil _ _ _ _
theorem OwnR.alloc {w : World} {B n : Nat} {v : Value} {ps : List Part} (h : OwnR w B v n ps) (o : Obj) : OwnR (w.alloc o) B v n ps := World.ownsRow.alloc h o
theorem OwnR.len {w : World} {B n : Nat} {v : Value} {ps : List Part} (h : OwnR w B v n ps) : ps.length = n := by have := h.1; simp at this; omega
theorem OwnR.rows {w : World} {B n c : Nat} {A : Option Addr} {ps : List Part} (h : OwnR w B (.slice A n c) n ps) (hp : ∀ p ∈ ps, PartOk w w.heap.size p) : RowsAt w w.heap.size A ps := fun hn => by
  have hl := h.len
  obtain ⟨g, cap, hv, _, hlt⟩ := h.form (by omega)
  have hA : A = some ⟨g, 0, none⟩ := by injection hv
  subst hA
  exact ⟨_, rfl, hlt, fun j p hj => ⟨h.cells (g := g) rfl j _ (by simp [hj]), hp p (List.mem_of_getElem? hj)⟩⟩
theorem reads_part (w : World) (p : Part) (t : TypeId) (fr : Nat × Nat) : Reads (w.alloc (.cells #[pv p] t fr)) (some ⟨w.heap.size, 0, none⟩) [pv p] := reads_new w #[pv p] t fr

set_option maxHeartbeats 400000 in
theorem few2_any (A : Option Addr) (n c m : Nat) (hc : n ≤ c) (_hm : c ≤ 9223372036854775807) (hmost : m ≤ 1000) (w : World) :
    Calls Tryd.prog 21 #[.slice A n c, .int .i64 m] w fun e w' => e = .returned (.slice A (min m n) c) ∧ w = w' := by
  go_enter Tryd.func21, Tryd.ntmps21
  go_wp2
  all_goals go_ret
  · have h : m < n := by assumption
    rw [Nat.min_eq_left (by omega)]
    exact ⟨rfl, rfl⟩
  · have h : n ≤ m := by first | assumption | omega | (rename_i h; simpa using h)
    rw [Nat.min_eq_right (by omega)]
    exact ⟨rfl, rfl⟩

/-- What cut does to a part. -/
def cutPart (p : Part) : Part := (p.1, p.2.1, p.2.2.take 60)
theorem cutPart_ok {w : World} {B : Nat} {p : Part} (h : PartOk w B p) : PartOk w B (cutPart p) :=
  ⟨by have := h.1; show (p.2.2.take 60).length ≤ p.2.1; rw [List.length_take]; omega, h.2.1, h.2.2.head⟩
def cutAll (ps : List Part) : List Part := (ps.take 6).map cutPart
theorem cutAll_ok {w : World} {B : Nat} {A : Option Addr} {ps : List Part} (h : RowsAt w B A ps) : ∀ p ∈ cutAll ps, PartOk w B p := by
  intro p hp
  obtain ⟨q, hq, rfl⟩ := List.mem_map.1 hp
  have hq' := List.mem_of_mem_take hq
  obtain ⟨j, hj⟩ := List.getElem?_of_mem hq'
  obtain ⟨_, _, _, hc⟩ := h (Nat.lt_of_le_of_lt (Nat.zero_le _) (List.getElem?_eq_some_iff.1 hj).1)
  exact cutPart_ok (hc j q hj).2
theorem cutAll_length (ps : List Part) : (cutAll ps).length = min 6 ps.length := by simp [cutAll]
theorem flat_le : ∀ (ps : List Part) (m : Nat), (∀ p ∈ ps, p.2.2.length ≤ m) → (flat ps).length ≤ ps.length * m
  | [], _, _ => by simp [flat]
  | p :: ps, m, h => by
    have h1 := h p (by simp)
    have h2 := flat_le ps m fun q hq => h q (by simp [hq])
    simp only [flat, List.flatMap_cons, List.length_append, List.length_cons, Nat.add_mul, Nat.one_mul] at h2 ⊢
    omega
theorem cutAll_flat (ps : List Part) : (flat (cutAll ps)).length ≤ 360 := by
  have h := flat_le (cutAll ps) 60 (fun p hp => by
    obtain ⟨q, _, rfl⟩ := List.mem_map.1 hp
    show (q.2.2.take 60).length ≤ 60
    exact List.length_take_le _ _)
  have h2 := cutAll_length ps
  have h3 : (cutAll ps).length * 60 ≤ 6 * 60 := Nat.mul_le_mul_right _ (by omega)
  omega

theorem take_map_succ {ps : List Part} {k : Nat} {p : Part} (h : ps[k]? = some p) : (ps.take (k + 1)).map cutPart = (ps.take k).map cutPart ++ [cutPart p] := by
  rw [take_snoc_of h]; simp
theorem flat_succ {ps : List Part} {k : Nat} {p : Part} (h : ps[k]? = some p) : flat (ps.take (k + 1)) = flat (ps.take k) ++ p.2.2 := by
  rw [take_snoc_of h]; simp [flat]
theorem flat_take_le (ps : List Part) (k : Nat) : (flat (ps.take k)).length ≤ (flat ps).length := by
  have h : flat ps = flat (ps.take k) ++ flat (ps.drop k) := by
    unfold flat
    rw [← List.flatMap_append, List.take_append_drop]
  rw [h, List.length_append]; omega

set_option maxHeartbeats 1000000 in
theorem cut_any (A : Option Addr) (ps : List Part) (n c : Nat) (hn : ps.length = n) (hm : n ≤ 9223372036854775807) (w : World) (h : RowsAt w w.heap.size A ps) :
    Calls Tryd.prog 22 #[.slice A n c] w fun e w' => ∃ A' n' c', e = .returned (.slice A' n' c') ∧ (cutAll ps).length = n' ∧ n' ≤ 6 ∧ RowsAt w' w'.heap.size A' (cutAll ps) ∧ Below w.heap.size w w' := by
  have HN := hid hn
  clear hn
  go_enter Tryd.func22, Tryd.ntmps22
  go_wp2
  go_loopw [3, 4] (fun v i wr => ∃ (k : Nat) (A' : Option Addr) (c' : Nat), k ≤ n ∧ k ≤ 6 ∧ i = .int .i64 k ∧ v = .slice A' k c' ∧ OwnR wr w.heap.size v k ((ps.take k).map cutPart) ∧ Below w.heap.size w wr) (fun _ i _ => 6 - (intOf i).toNat)
  case atStart => exact ⟨0, none, 0, by omega, by omega, rfl, rfl, OwnR.nil _ _, Below.refl _ _⟩
  case round =>
    obtain ⟨k, A', c', hk, hk6, rfl, rfl, own, bel⟩ := hrel
    by_cases hlt : k < n ∧ k < 6
    · obtain ⟨hlt1, hlt2⟩ := hlt
      obtain ⟨ad, p, rfl, had, hp, hcell, hok⟩ := (h.below bel).get (k := k) (by rw [HN.out]; exact hlt1)
      obtain ⟨pa, pc, pl⟩ := p
      obtain ⟨m, hm'⟩ : ∃ m, pl.length = m := ⟨_, rfl⟩
      have hpc : m ≤ pc := by rw [← hm']; exact hok.1
      have hpm : pc ≤ 9223372036854775807 := hok.2.1
      have hcell' : wr.cell? (ad.add k) = some (.slice pa m pc) := by rw [← hm']; exact hcell
      have HP := hid hp
      have HM := hid hm'
      have hf := hid (few2_any pa m pc 60 hpc hpm (by omega))
      have hmin : Hid (pv (cutPart (pa, pc, pl)) = .slice pa (min 60 m) pc) := hid (by
        show Value.slice pa (pl.take 60).length pc = _
        rw [List.length_take, HM.out])
      have hk0 : (0 : Int) ≤ (k : Int) := Int.natCast_nonneg _
      have hk1 : (k : Int) < (n : Int) := by omega
      clear hp hm' hok hcell had
      go_wp2_with fail
      refine (hf.out _).mono ?_
      rintro er wq ⟨rfl, rfl⟩
      go_wp2_with (at_builtin; (refine wpList_app rfl slR (.tmp 15) (.tmp 21) rfl (OwnR.alloc own _) rfl rfl (by rfl) (reads_new wr #[.slice pa (min 60 m) pc] _ _) (by intro u hu; simp only [List.mem_cons, List.not_mem_nil, or_false] at hu; subst hu; rfl) (by omega) (by unfold maxLen; omega) (le_alloc bel.size _) (n' := k + 1) rfl ?_; intro A4 c4 w4 own4 gr4))
      have bel4 : Below w.heap.size w w4 := (bel.alloc bel.size _).grown gr4 (le_alloc bel.size _) (fun g hg => (own.lt g hg).1)
      have HR : Hid (OwnR w4 w.heap.size (.slice A4 (k + 1) c4) (k + 1) ((ps.take (k + 1)).map cutPart)) := hid (by
        unfold OwnR
        rw [take_map_succ HP.out, List.map_append]
        have h := own4
        rw [show [Value.slice pa (min 60 m) pc] = [cutPart (pa, pc, pl)].map pv by rw [List.map_cons, List.map_nil, hmin.out]] at h
        exact h)
      clear own4 own bel gr4 hcell'
      go_roundw
      case rel => exact ⟨k + 1, A4, c4, by omega, by omega, by go_num, rfl, HR.out, bel4⟩
      case measure => simp [intOf]; omega
    · have hR : RowsAt wr wr.heap.size A' (cutAll ps) ∧ (cutAll ps).length = k := by
        have hk' : ps.take k = ps.take 6 := by
          by_cases h6 : k = 6
          · rw [h6]
          · rw [List.take_of_length_le (by rw [HN.out]; omega), List.take_of_length_le (by rw [HN.out]; omega)]
        have own' := own
        rw [hk'] at own'
        exact ⟨OwnR.rows own' (fun p hp => ((cutAll_ok h p hp).below bel).more bel.size), own'.len⟩
      have HRR := hid hR
      clear hR own h
      by_cases hkn : k < n
      all_goals
        go_wp2
        go_ret
        exact ⟨A', k, c', rfl, HRR.out.2, hk6, HRR.out.1, bel⟩

set_option maxHeartbeats 1000000 in
theorem refJoined_any (A : Option Addr) (ps : List Part) (n c : Nat) (hn : ps.length = n) (hm : n ≤ 9223372036854775807) (hfl : (flat ps).length ≤ 1099511627776) (w : World) (h : RowsAt w w.heap.size A ps) :
    Calls Tryd.prog 25 #[.slice A n c] w fun e w' => ∃ A' N c', e = .returned (.slice A' N c') ∧ OwnB w' w.heap.size (.slice A' N c') N (flat ps) ∧ Below w.heap.size w w' := by
  have HN := hid hn
  clear hn
  go_enter Tryd.func25, Tryd.ntmps25
  go_wp2
  go_loopw [3, 4] (fun v i wr => ∃ (k N : Nat) (A' : Option Addr) (c' : Nat), k ≤ n ∧ i = .int .i64 k ∧ v = .slice A' N c' ∧ OwnB wr w.heap.size v N (flat (ps.take k)) ∧ Below w.heap.size w wr) (fun _ i _ => n - (intOf i).toNat)
  case atStart => exact ⟨0, 0, none, 0, by omega, rfl, rfl, OwnB.nil _ _, Below.refl _ _⟩
  case round =>
    obtain ⟨k, N, A', c', hk, rfl, rfl, own, bel⟩ := hrel
    by_cases hlt : k < n
    · obtain ⟨ad, p, rfl, had, hp, hcell, hok⟩ := (h.below bel).get (k := k) (by rw [HN.out]; exact hlt)
      obtain ⟨pa, pc, pl⟩ := p
      obtain ⟨m, hm'⟩ : ∃ m, pl.length = m := ⟨_, rfl⟩
      have hcell' : wr.cell? (ad.add k) = some (.slice pa m pc) := by rw [← hm']; exact hcell
      have hsum : N + m ≤ 1099511627776 := by
        have h1 := own.len
        have h2 := flat_take_le ps (k + 1)
        rw [flat_succ hp, List.length_append, h1] at h2
        have h3 : (pa, pc, pl).2.2.length = m := hm'
        omega
      have HP := hid hp
      have HM := hid hm'
      have hrd := hok.2.2.reads
      have hk0 : (0 : Int) ≤ (k : Int) := Int.natCast_nonneg _
      have hk1 : (k : Int) < (n : Int) := by omega
      clear hp hm' hok hcell had
      go_wp2_with (at_builtin; (refine wpList_appB rfl (.tmp 11) (.tmp 15) rfl w.heap.size (.slice A' N c') N _ own rfl pa m pc pl rfl HM.out hrd (by omega) bel.size w bel (N + m) rfl ?_; intro A4 c4 w4 own4 _ bel4))
      have HR : Hid (OwnB w4 w.heap.size (.slice A4 (N + m) c4) (N + m) (flat (ps.take (k + 1)))) := hid (by rw [flat_succ HP.out]; exact own4)
      clear own4 own bel hcell' hrd
      go_roundw
      case rel => exact ⟨k + 1, N + m, A4, c4, by omega, by go_num, rfl, HR.out, bel4⟩
      case measure => simp [intOf]; omega
    · obtain rfl : k = n := by omega
      rw [List.take_of_length_le (by rw [HN.out]; omega)] at own
      have HO := hid own
      clear own h
      go_wp2
      go_ret
      exact ⟨A', N, c', rfl, HO.out, bel⟩
end Go.Proofs.YtdmglanepjhdoaaDoor.Sh
