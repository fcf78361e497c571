/- WireReads: what a cursor answers of any bytes (the first 200) is just what the document's own cursor answers, call by call (the first 60): numbers, texts, errors that are set; its error, its end and its place behind each. In it the document's examples hold. Conditions: none. -/
import Derived.Test.YtchhbdhmmccbpaaRows
import Derived.Test.YtchhbdhmmccbpaaWiLawE
import Derived.Deep.Slices
import Derived.Deep.Strs
import Derived.ProofKit
import Derived.OpenShut
import Derived.ChangeOld
import Derived.Deep.DeepHandedRow
import Derived.ChangeSame
import Derived.JoinedOf
import Derived.JoinedAt
namespace Go.Proofs.Ytchhbdhmmccbpaa.Sh
open Go Go.ChangeShapes Go.WideShapes Go.ChangeAt Go.RowKit

theorem own : ownKnob Try.prog.godebug = none := by kernel_rfl
theorem laidOut : laidOutB Try.prog = true := by kernel_rfl
theorem cellsU8 : Try.prog.cellsOf 5 = 1 := by kernel_rfl
/-- WHAT THE WALK IS TOLD OF A SLICE OF BYTES THAT CAME IN. -/
theorem bytes_of {W : World} {a : Option Addr} {len cap : Nat} {H : Type} {enc : TypeId × Value → H} {p : List MemPlace} {d : DataW H}
    (h : DataW.Trod enc Try.prog W 0 (fun _ => true) true 22 (Value.slice a len cap) d p) :
    ∃ l : List UInt8, l.length = len ∧ len ≤ cap ∧ cap ≤ 9223372036854775807 ∧ Byt W W.heap.size a l := by
  obtain ⟨fuel, hf⟩ := h
  rcases open_ints Try.underlying22 Try.underlying5 cellsU8 hf with ⟨hcs, _⟩ | ⟨x, l, c, zs, hcs, _, hl, hm, hz, _, hcell, hwz⟩
  · simp [Value.cells] at hcs
    obtain ⟨rfl, rfl, rfl⟩ := hcs
    exact ⟨[], rfl, Nat.le_refl _, by omega, Byt.nil⟩
  · simp [Value.cells] at hcs
    obtain ⟨rfl, rfl, rfl⟩ := hcs
    have hzl : zs.length = cap := by simpa using hz
    refine ⟨(zs.take len).map fun z => UInt8.ofNat z.toNat, by simp; omega, hl, by unfold maxLen at hm; exact hm, fun hpos => ?_⟩
    have h0 : 0 < len := by simp at hpos; omega
    have hc0 := hcell 0 (by omega)
    refine ⟨x, rfl, ?_, fun j y hy => ?_⟩
    · have := World.block_lt_of_cell? W _ hc0
      rwa [block_add] at this
    · simp only [List.getElem?_map, Option.map_eq_some_iff] at hy
      obtain ⟨z, hz1, rfl⟩ := hy
      have hj : j < len := by
        have := (List.getElem?_eq_some_iff.1 hz1).1
        simp at this; omega
      rw [List.getElem?_take, if_pos hj] at hz1
      have hw := hwz z (List.mem_of_getElem? hz1)
      have hb : 0 ≤ z ∧ z ≤ 255 := Go.bounds_u8 hw
      rw [hcell j (by omega), List.getD_eq_getElem?_getD, hz1, UInt8.toNat_ofNat', Nat.mod_eq_of_lt (by omega)]
      simp
      omega


theorem byte_of {n : Int} (h : (Lit.int .u8 n).wf = true) : ∃ y : UInt8, n = (y.toNat : Int) := by
  have hb := Go.bounds_u8 h
  exact ⟨UInt8.ofNat n.toNat, by rw [UInt8.toNat_ofNat', Nat.mod_eq_of_lt (by omega)]; omega⟩

open Go.Deep in
theorem cellsAsk : Try.prog.cellsOf 36 = 3 := by kernel_rfl
theorem cellsInt : Try.prog.cellsOf 3 = 1 := by kernel_rfl
/-- WHAT THE WALK IS TOLD OF WHAT IS ASKED. -/
theorem asks_of {W : World} {a : Option Addr} {len cap : Nat} {H : Type} {enc : TypeId × Value → H} {p : List MemPlace} {d : DataW H}
    (h : DataW.Trod enc Try.prog W 0 (fun _ => true) true 28 (Value.slice a len cap) d p) :
    ∃ qs : List (Int × Int × Int), qs.length = len ∧ len ≤ cap ∧ cap ≤ 9223372036854775807 ∧ AskAt W W.heap.size a qs := by
  obtain ⟨fuel, hf⟩ := h
  rcases Go.Deep.open_slice Try.underlying28 hf with ⟨hcs, _⟩ | ⟨x, l, c, m, n, D, Pl, hcs, _, hl, hm, hmm, _, hi⟩
  · simp [Value.cells] at hcs
    obtain ⟨rfl, rfl, rfl⟩ := hcs
    exact ⟨[], rfl, Nat.le_refl _, by omega, fun h => absurd h (by simp)⟩
  · simp [Value.cells] at hcs
    obtain ⟨rfl, rfl, rfl⟩ := hcs
    rw [if_pos rfl] at hmm
    have hone : ∀ i, i < len → ∃ q : Int × Int × Int, W.cell? (x.add (3 * i)) = some (.int .i64 q.1) ∧ W.cell? (x.add (3 * i + 1)) = some (.int .i64 q.2.1) ∧ W.cell? (x.add (3 * i + 2)) = some (.int .i64 q.2.2) := fun i hil => by
      obtain ⟨cs', hc, ht⟩ := hi i (by omega)
      rw [cellsAsk] at hc
      obtain ⟨_, hcl, hat⟩ := World.cells?_some hc
      obtain ⟨y0, y1, y2, n', _, _, h0, h1, h2⟩ := Go.Deep.trod_struct3 Try.underlying36 ht
      match cs', hcl with
      | [c0, c1, c2], _ =>
        obtain ⟨k0, e0, _, _⟩ := DataW.trod_int Try.underlying3 h0
        obtain ⟨k1, e1, _, _⟩ := DataW.trod_int Try.underlying3 h1
        obtain ⟨k2, e2, _, _⟩ := DataW.trod_int Try.underlying3 h2
        simp [cellsInt] at e0 e1 e2
        subst e0 e1 e2
        have g0 := hat 0 (by omega)
        have g1 := hat 1 (by omega)
        have g2 := hat 2 (by omega)
        rw [Nat.mul_comm i 3] at g0 g1 g2
        rw [add_add] at g0 g1 g2
        exact ⟨(k0, k1, k2), g0, g1, g2⟩
    obtain ⟨Q, hQ⟩ : ∃ Q : Nat → Int × Int × Int, ∀ i, i < len → W.cell? (x.add (3 * i)) = some (.int .i64 (Q i).1) ∧ W.cell? (x.add (3 * i + 1)) = some (.int .i64 (Q i).2.1) ∧ W.cell? (x.add (3 * i + 2)) = some (.int .i64 (Q i).2.2) := by
      classical
      exact ⟨fun i => if h : i < len then Classical.choose (hone i h) else (0, 0, 0), fun i hi => by simp only [dif_pos hi]; exact Classical.choose_spec (hone i hi)⟩
    refine ⟨(List.range len).map Q, by simp, hl, by unfold maxLen at hm; exact hm, fun hpos => ?_⟩
    have h0 : 0 < len := by simpa using hpos
    refine ⟨x, rfl, ?_, fun j q hq => ?_⟩
    · have := World.block_lt_of_cell? W _ (hQ 0 h0).1
      rwa [block_add] at this
    · simp only [List.getElem?_map, Option.map_eq_some_iff] at hq
      obtain ⟨r, hr1, rfl⟩ := hq
      have hj : j < len := by have := (List.getElem?_eq_some_iff.1 hr1).1; simpa using this
      rw [List.getElem?_range hj] at hr1
      injection hr1 with hr1
      subst hr1
      exact hQ _ hj

/-! ### WireReads -/
namespace wireReads
/-- WHAT THE WALK GIVES, FOR EVERY ARGUMENT AND EVERY WORLD. -/
theorem contract (H : Type) (enc : TypeId × Value → H) (W : World) (base : Nat) (args : Array Value) (ds gs : List (DataW H)) (before : List MemPlace)
    (hval : ∀ (j : Nat) t v, Try.f4.params[j]? = some t → args[j]? = some v → Value.okWide Try.prog W .any base t v)
    (hW : DataW.Whole enc Try.prog Try.f4.params.toList Rows.wireReadsSpec.vars false W args.toList ds gs before) :
    Calls Try.prog 4 args W fun e W' => ∃ v, e = .returned v ∧ Rows.wireReadsSpec.post enc Try.prog Try.f4 false true false false W args v W' := by
  have hW' := hW
  obtain ⟨p, q, hA0, hV, rfl, hfz, hnd⟩ := hW
  have hA : DataW.TrodAll enc Try.prog W 0 (fun _ => true) true Try.f4.params.toList args.toList ds p := hA0
  rw [Try.params4] at hA hval
  obtain ⟨v0, vs0, d0, ds0, p0, q0, hargs, rfl, rfl, h0, r0⟩ := trodAll_cons hA
  obtain ⟨v1, vs1, d1, ds1, p1, q1, rfl, rfl, rfl, h1, r1⟩ := trodAll_cons r0
  obtain ⟨rfl, rfl, rfl⟩ := trodAll_nil r1
  obtain rfl : args = #[v0, v1] := by cases args; simp_all
  obtain ⟨rfl, rfl⟩ := trodVars_none hV
  obtain ⟨a0, len0, cap0, rfl⟩ := okWide_slice Try.underlying22 (hval 0 22 v0 rfl rfl)
  have k0 := h0
  have lt0 : ∀ x ∈ p0, x.block < W.heap.size := by obtain ⟨m, hm⟩ := k0; exact DataW.trod_lt m _ _ _ hm
  obtain ⟨l0, rfl, hlc0, hcm0, hb0⟩ := bytes_of h0
  obtain ⟨a1, len1, cap1, rfl⟩ := okWide_slice Try.underlying28 (hval 1 28 v1 rfl rfl)
  have k1 := h1
  have lt1 : ∀ x ∈ p1, x.block < W.heap.size := by obtain ⟨m, hm⟩ := k1; exact DataW.trod_lt m _ _ _ hm
  obtain ⟨l1, rfl, hlc1, hcm1, hb1⟩ := asks_of h1
  clear hA0
  refine (wireReads_walk a0 a1 l0 l1 _ cap0 _ cap1 rfl hlc0 rfl hlc1 hcm1 W hb0 hb1).mono fun e W' ⟨he, bel⟩ => ?_
  subst he
  exact ⟨_, rfl, _, _, _, [], _, [], hW', trodAll_mk1 (shut_bool Try.underlying4 _), (trodAll_cons_mk (Below.trod laidOut (by kernel_rfl) (of_decide_eq_true (by kernel_rfl)) k0 bel lt0) (trodAll_cons_mk (Below.trod laidOut (by kernel_rfl) (of_decide_eq_true (by kernel_rfl)) k1 bel lt1) trodAll_mk0)), rfl, bel.frame _, fun h => by cases h⟩

set_option maxRecDepth 100000 in
theorem lifted (os : Os) (started : os.Started) (H : Type) (enc : TypeId × Value → H) :
    ReturnsInHanded {} Try.checked os 4 .any (Rows.wireReadsSpec.pre6 enc Try.prog Try.f4 Rows.wireReadsRow.domain false) (Rows.wireReadsSpec.post enc Try.prog Try.f4 false true false false) := by
  refine returnsInHanded_of_change (C := Try.checked) own started (by kernel_rfl) Try.func4
    (ChangeSpec.witness6 (enc := enc) (C := Try.checked) false ⟨#[], #[Value.slice none 0 0, Value.slice none 0 0], []⟩ 8 (by kernel_rfl) (by kernel_rfl) (by kernel_rfl) (by kernel_rfl)) ?_
  intro W base args ds gs before hval hW _ _
  exact contract H enc W base args ds gs before hval hW

/-- THE STATEMENT. -/
theorem said : Rows.WireReadsSaid :=
  OpenClaim.holds_of_wide 4 Try.f4 rfl rfl rfl rfl rfl rfl rfl ⟨rfl, rfl, rfl, rfl, rfl⟩ rfl rfl rfl rfl rfl (by kernel_rfl) Try.func4 (by kernel_rfl)
    (of_decide_eq_true (by kernel_rfl)) (by unfold Func.isWrapper; first | (rw [if_pos (by decide +kernel)]; kernel_rfl) | (rw [if_neg (by decide +kernel)]; exact ⟨rfl, rfl⟩))
    (fun os started H enc _ => lifted os started H enc)
end wireReads
end Go.Proofs.Ytchhbdhmmccbpaa.Sh
