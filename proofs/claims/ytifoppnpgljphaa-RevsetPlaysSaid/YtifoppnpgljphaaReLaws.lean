/- Layer 11. RevsetPlays, RevsetDeltas: whatever is asked of a set, it answers, has, and tells as lacking, just what the document's own does. RevsetGrows: each row begins with what it was. RevsetJoined: two sets that had their rows from the same domains come to the same. RevsetOwns: what is handed in stays, what is told is new, a copy knows nothing of the other. In each the document's examples hold. Conditions: none. -/
import Derived.Test.YtifoppnpgljphaaRows
import Derived.Test.YtifoppnpgljphaaReLawE
import Derived.Test.YtifoppnpgljphaaReLives
import Derived.Deep.Slices
import Derived.Deep.Strs
import Derived.ProofKit
import Derived.OpenShut
import Derived.ChangeOld
import Derived.Deep.DeepHandedRow
import Derived.ChangeSame
import Derived.JoinedOf
import Derived.JoinedAt
namespace Go.Proofs.Ytifoppnpgljphaa.Sh
open Go Go.ChangeShapes Go.WideShapes Go.ChangeAt Go.RowKit

theorem own : ownKnob Try.prog.godebug = none := by kernel_rfl
theorem laidOut : laidOutB Try.prog = true := by kernel_rfl
theorem cellsInt : Try.prog.cellsOf 3 = 1 := by kernel_rfl
theorem cellsInts : Try.prog.cellsOf 30 = 1 := by kernel_rfl
theorem cellsRows : Try.prog.cellsOf 31 = 1 := by kernel_rfl
theorem cellsId : Try.prog.cellsOf 29 = 2 := by kernel_rfl
theorem cellsDeed : Try.prog.cellsOf 33 = 5 := by kernel_rfl
theorem struct4 {P : Program} {H : Type} {enc : TypeId × Value → H} {w : World} {base : Nat} {spare : Nat → Bool} {held : Bool} {t : TypeId} {f0 f1 f2 f3 : Field} {fuel : Nat} {cs : List Value} {x : DataW H × List MemPlace} (ht : P.underlying t = some (.struct #[f0, f1, f2, f3])) (h : DataW.trod enc P w base spare held fuel t cs = some x) :
    ∃ y0 y1 y2 y3 n, cs.length = P.cellsOf t ∧ DataW.trod enc P w base spare held n f0.type ((cs.drop f0.offset).take (P.cellsOf f0.type)) = some y0 ∧ DataW.trod enc P w base spare held n f1.type ((cs.drop f1.offset).take (P.cellsOf f1.type)) = some y1 ∧
      DataW.trod enc P w base spare held n f2.type ((cs.drop f2.offset).take (P.cellsOf f2.type)) = some y2 ∧ DataW.trod enc P w base spare held n f3.type ((cs.drop f3.offset).take (P.cellsOf f3.type)) = some y3 := by
  obtain ⟨xs, n, _, rfl, hl, hlen, hf⟩ := DataW.trod_struct ht h
  match xs, hlen with
  | [y0, y1, y2, y3], _ => exact ⟨y0, y1, y2, y3, n, hl, by simpa using hf 0 f0 rfl, by simpa using hf 1 f1 rfl, by simpa using hf 2 f2 rfl, by simpa using hf 3 f3 rfl⟩
theorem els_intsR {w : World} {B : Nat} {A : Option Addr} {l : List Int} (h : 0 < l.length → ∃ ad, A = some ad ∧ ad.block < B ∧ ∀ j y, l[j]? = some y → w.cell? (ad.add j) = some (Value.int .i64 y)) : Els encN w B A l := fun hn => by
  obtain ⟨ad, e, h1, h2⟩ := h hn
  refine ⟨ad, e, h1, fun i u hu => ?_⟩
  rw [ev_int, List.getElem?_map] at hu
  obtain ⟨y, hy, rfl⟩ := Option.map_eq_some_iff.1 hu
  exact h2 i y hy
section
variable {W : World} {H : Type} {enc : TypeId × Value → H}
theorem in64_of_wf {n : Int} (h : (Lit.int .i64 n).wf = true) : In64 n := by
  simp [Lit.wf, IntKind.min, IntKind.max, IntKind.signed, IntKind.bits] at h
  unfold In64
  omega
/-- A slice of numbers, by its cell. -/
theorem ints_cell {n : Nat} {cs : List Value} {y : DataW H × List MemPlace} (h : DataW.trod enc Try.prog W 0 (fun _ => true) true n 30 cs = some y) :
    ∃ (x : Hd) (l : List Int), cs = [x.val] ∧ l.length = x.n ∧ x.n ≤ x.c ∧ x.c ≤ 9223372036854775807 ∧ Els encN W W.heap.size x.A l ∧ ∀ z ∈ l, In64 z := by
  rcases open_ints Try.underlying30 Try.underlying3 cellsInt h with ⟨rfl, _⟩ | ⟨a, len, cap, zs, rfl, _, hl, hm, hz, _, hcell, hwz⟩
  · exact ⟨⟨none, 0, 0⟩, [], rfl, rfl, Nat.le_refl _, by show (0 : Nat) ≤ _; omega, Els.nil, by simp⟩
  · have hzl : zs.length = cap := by simpa using hz
    refine ⟨⟨some a, len, cap⟩, zs.take len, rfl, by show (zs.take len).length = len; rw [List.length_take]; omega, hl, by unfold maxLen at hm; exact hm, els_intsR fun hpos => ?_, fun z hz => in64_of_wf (hwz z (List.mem_of_mem_take hz))⟩
    have h0 : 0 < len := by rw [List.length_take] at hpos; omega
    have hc0 := hcell 0 (by omega)
    refine ⟨a, rfl, ?_, fun j y hy => ?_⟩
    · have := World.block_lt_of_cell? W _ hc0
      rwa [block_add] at this
    · have hj : j < len := by
        have := (List.getElem?_eq_some_iff.1 hy).1
        rw [List.length_take] at this; omega
      rw [List.getElem?_take, if_pos hj] at hy
      rw [hcell j (by omega), List.getD_eq_getElem?_getD, hy]
      rfl
theorem elsQ_of {α : Type} {E : Enc α} {w : World} {A : Option Addr} {l : List α} (h : Els E w w.heap.size A l) : ElsQ E w (fun b => b < w.heap.size) A l := fun hn => by
  obtain ⟨ad, e, hb, hc⟩ := h hn
  exact ⟨ad, e, hb, hb, hc⟩
/-- A slice of slices of numbers, by its cell. -/
theorem rows_cell {n : Nat} {cs : List Value} {y : DataW H × List MemPlace} (h : DataW.trod enc Try.prog W 0 (fun _ => true) true n 31 cs = some y) :
    ∃ (x : Hd) (ll : List (List Int)), cs = [x.val] ∧ ll.length = x.n ∧ x.n ≤ x.c ∧ x.c ≤ 9223372036854775807 ∧ LlsQ W (fun b => b < W.heap.size) x.A ll ∧ ∀ l ∈ ll, ∀ z ∈ l, In64 z := by
  rcases Go.Deep.open_slice Try.underlying31 h with ⟨rfl, _⟩ | ⟨a, len, cap, m, n, D, Pl, rfl, _, hl, hm, hmm, _, hi⟩
  · exact ⟨⟨none, 0, 0⟩, [], rfl, rfl, Nat.le_refl _, by show (0 : Nat) ≤ _; omega, LlsQ.nil, by simp⟩
  · rw [if_pos rfl] at hmm
    have hone : ∀ i : Fin len, ∃ z : Hd × List Int, W.cell? (a.add i.1) = some z.1.val ∧ z.2.length = z.1.n ∧ z.1.n ≤ z.1.c ∧ z.1.c ≤ 9223372036854775807 ∧ Els encN W W.heap.size z.1.A z.2 ∧ ∀ y ∈ z.2, In64 y := fun i => by
      obtain ⟨cs', hc, ht⟩ := hi i.1 (by have := i.2; omega)
      rw [cellsInts] at hc
      obtain ⟨_, hcl, hat⟩ := World.cells?_some hc
      obtain ⟨x, l, rfl, k1, k2, k3, k4, k5⟩ := ints_cell ht
      have g0 := hat 0 (by omega)
      rw [add_add, Nat.mul_one, Nat.add_zero] at g0
      exact ⟨(x, l), g0, k1, k2, k3, k4, k5⟩
    refine ⟨⟨some a, len, cap⟩, List.ofFn fun i => (hone i).choose.2, rfl, by simp, hl, by unfold maxLen at hm; exact hm, ⟨List.ofFn fun i => (hone i).choose.1, by simp, elsQ_of fun hpos => ?_, fun i x l hx hl => ?_⟩, fun l hl z hz => ?_⟩
    · have h0 : 0 < len := by simpa using hpos
      refine ⟨a, rfl, ?_, fun i u hu => ?_⟩
      · have := World.block_lt_of_cell? W _ (hone ⟨0, h0⟩).choose_spec.1
        rwa [block_add] at this
      · rw [ev_hd, List.getElem?_map] at hu
        obtain ⟨y, hy, rfl⟩ := Option.map_eq_some_iff.1 hu
        rw [List.getElem?_ofFn] at hy
        split at hy
        · rename_i hi2
          injection hy with hy
          subst hy
          exact (hone ⟨i, hi2⟩).choose_spec.1
        · cases hy
    · rw [List.getElem?_ofFn] at hx hl
      split at hx
      · rename_i hi2
        rw [dif_pos hi2] at hl
        injection hx with hx
        injection hl with hl
        subst hx
        subst hl
        obtain ⟨_, k1, k2, k3, k4, _⟩ := (hone ⟨i, hi2⟩).choose_spec
        exact ⟨k1, k2, k3, elsQ_of k4⟩
      · cases hx
    · obtain ⟨i, rfl⟩ := List.mem_ofFn.1 hl
      exact (hone i).choose_spec.2.2.2.2.2 z hz
/-- A deed, by its cells. -/
theorem deed_cells {n : Nat} {cs : List Value} {y : DataW H × List MemPlace} (h : DataW.trod enc Try.prog W 0 (fun _ => true) true n 33 cs = some y) :
    ∃ (dh : DH) (x : Deed), cs = dh.cells ∧ DeedAt W (fun b => b < W.heap.size) dh x := by
  obtain ⟨y0, y1, y2, y3, n', hl, h0, h1, h2, h3⟩ := struct4 Try.underlying33 h
  rw [cellsDeed] at hl
  match cs, hl with
  | [c0, c1, c2, c3, c4], _ =>
    obtain ⟨k0, e0, _, _⟩ := DataW.trod_int Try.underlying3 h0
    obtain ⟨z0, z1, n2, _, _, i0, i1⟩ := trod_struct2 Try.underlying29 h1
    obtain ⟨k1, e1, _, _⟩ := DataW.trod_int Try.underlying3 i0
    obtain ⟨k2, e2, _, _⟩ := DataW.trod_int Try.underlying3 i1
    obtain ⟨⟨kA, kn, kc⟩, kl, e3, q1, q2, q3, q4, _⟩ := ints_cell h2
    obtain ⟨⟨mA, mn, mc⟩, ml, e4, r1, r2, r3, r4, r5⟩ := rows_cell h3
    simp [cellsInt, cellsId] at e0 e1 e2
    simp [cellsInts, Hd.val] at e3
    simp [cellsRows, Hd.val] at e4
    subst e0 e1 e2 e3 e4
    exact ⟨⟨k0, k1, k2, kA, kn, kc, mA, mn, mc⟩, ⟨k0, k1, k2, kl, ml⟩, rfl, rfl, rfl, rfl, q1, q2, q3, elsQ_of q4, r1, r2, r3, r4, r5⟩
end
/-- WHAT THE WALK IS TOLD OF A SLICE OF NUMBERS THAT CAME IN. -/
theorem ints_of {W : World} {a : Option Addr} {len cap : Nat} {H : Type} {enc : TypeId × Value → H} {p : List MemPlace} {d : DataW H}
    (h : DataW.Trod enc Try.prog W 0 (fun _ => true) true 30 (Value.slice a len cap) d p) :
    ∃ l : List Int, l.length = len ∧ len ≤ cap ∧ cap ≤ 9223372036854775807 ∧ Els encN W W.heap.size a l := by
  obtain ⟨fuel, hf⟩ := h
  obtain ⟨⟨A, n, c⟩, l, e, h1, h2, h3, h4, _⟩ := ints_cell hf
  simp [Value.cells, Hd.val] at e
  obtain ⟨rfl, rfl, rfl⟩ := e
  exact ⟨l, h1, h2, h3, h4⟩
/-- WHAT THE WALK IS TOLD OF A SLICE OF DEEDS THAT CAME IN. -/
theorem deeds_of {W : World} {a : Option Addr} {len cap : Nat} {H : Type} {enc : TypeId × Value → H} {p : List MemPlace} {d : DataW H}
    (h : DataW.Trod enc Try.prog W 0 (fun _ => true) true 22 (Value.slice a len cap) d p) :
    ∃ xs : List Deed, xs.length = len ∧ len ≤ cap ∧ cap ≤ 9223372036854775807 ∧ Deeds W W.heap.size a xs := by
  obtain ⟨fuel, hf⟩ := h
  rcases Go.Deep.open_slice Try.underlying22 hf with ⟨hcs, _⟩ | ⟨ad, l, c, m, n, D, Pl, hcs, _, hl, hm, hmm, _, hi⟩
  · simp [Value.cells] at hcs
    obtain ⟨rfl, rfl, rfl⟩ := hcs
    exact ⟨[], rfl, Nat.le_refl _, by omega, [], rfl, Els.nil, fun i x y hx => by simp at hx⟩
  · simp [Value.cells] at hcs
    obtain ⟨rfl, rfl, rfl⟩ := hcs
    rw [if_pos rfl] at hmm
    have hone : ∀ i : Fin len, ∃ z : DH × Deed, DeedAt W (fun b => b < W.heap.size) z.1 z.2 ∧ ∀ j u, z.1.cells[j]? = some u → W.cell? (ad.add (i.1 * 5 + j)) = some u := fun i => by
      obtain ⟨cs', hc, ht⟩ := hi i.1 (by have := i.2; omega)
      rw [cellsDeed] at hc
      obtain ⟨_, hcl, hat⟩ := World.cells?_some hc
      obtain ⟨dh, x, rfl, k⟩ := deed_cells ht
      refine ⟨(dh, x), k, fun j u hu => ?_⟩
      have hj := (List.getElem?_eq_some_iff.1 hu)
      obtain ⟨hj1, hj2⟩ := hj
      have g0 := hat j hj1
      rw [add_add] at g0
      rw [g0]
      exact hu
    refine ⟨List.ofFn fun i => (hone i).choose.2, by simp, hl, by unfold maxLen at hm; exact hm, List.ofFn fun i => (hone i).choose.1, by simp, fun hpos => ?_, fun i x y hx hy => ?_⟩
    · have h0 : 0 < len := by simpa using hpos
      refine ⟨ad, rfl, ?_, fun i u hu => ?_⟩
      · have := World.block_lt_of_cell? W _ ((hone ⟨0, h0⟩).choose_spec.2 0 _ rfl)
        rwa [block_add] at this
      · have hlen := (List.getElem?_eq_some_iff.1 hu).1
        rw [ev_length] at hlen
        have hk : encD.k = 5 := rfl
        simp only [List.length_ofFn, hk] at hlen
        have hd := Nat.div_add_mod i 5
        have hm5 := Nat.mod_lt i (show 0 < 5 by omega)
        have hi2 : i / 5 < len := by omega
        have hx : (List.ofFn fun i => (hone i).choose.1)[i / 5]? = some (hone ⟨i / 5, hi2⟩).choose.1 := by rw [List.getElem?_ofFn, dif_pos hi2]
        have hg := ev_get encD hx (i := i % 5) hm5
        rw [hk, show i / 5 * 5 + i % 5 = i by omega, hu] at hg
        have := (hone ⟨i / 5, hi2⟩).choose_spec.2 (i % 5) u hg.symm
        rw [show i / 5 * 5 + i % 5 = i by omega] at this
        exact this
    · rw [List.getElem?_ofFn] at hx hy
      split at hx
      · rename_i hi2
        rw [dif_pos hi2] at hy
        injection hx with hx
        injection hy with hy
        subst hx
        subst hy
        exact (hone ⟨i, hi2⟩).choose_spec.1
      · cases hx
/-- WHAT THE WALK IS TOLD OF A SLICE OF IDS THAT CAME IN. -/
theorem ids_of {W : World} {a : Option Addr} {len cap : Nat} {H : Type} {enc : TypeId × Value → H} {p : List MemPlace} {d : DataW H}
    (h : DataW.Trod enc Try.prog W 0 (fun _ => true) true 47 (Value.slice a len cap) d p) :
    ∃ xs : List (Int × Int), xs.length = len ∧ len ≤ cap ∧ cap ≤ 9223372036854775807 ∧ Els encI W W.heap.size a xs := by
  obtain ⟨fuel, hf⟩ := h
  rcases Go.Deep.open_slice Try.underlying47 hf with ⟨hcs, _⟩ | ⟨ad, l, c, m, n, D, Pl, hcs, _, hl, hm, hmm, _, hi⟩
  · simp [Value.cells] at hcs
    obtain ⟨rfl, rfl, rfl⟩ := hcs
    exact ⟨[], rfl, Nat.le_refl _, by omega, Els.nil⟩
  · simp [Value.cells] at hcs
    obtain ⟨rfl, rfl, rfl⟩ := hcs
    rw [if_pos rfl] at hmm
    have hone : ∀ i : Fin len, ∃ z : Int × Int, ∀ j u, (encI.cells z)[j]? = some u → W.cell? (ad.add (i.1 * 2 + j)) = some u := fun i => by
      obtain ⟨cs', hc, ht⟩ := hi i.1 (by have := i.2; omega)
      rw [cellsId] at hc
      obtain ⟨_, hcl, hat⟩ := World.cells?_some hc
      obtain ⟨z0, z1, n2, _, _, i0, i1⟩ := trod_struct2 Try.underlying29 ht
      match cs', hcl with
      | [c1, c2], _ =>
        obtain ⟨k1, e1, _, _⟩ := DataW.trod_int Try.underlying3 i0
        obtain ⟨k2, e2, _, _⟩ := DataW.trod_int Try.underlying3 i1
        simp [cellsInt] at e1 e2
        subst e1 e2
        refine ⟨(k1, k2), fun j u hu => ?_⟩
        obtain ⟨hj1, hj2⟩ := List.getElem?_eq_some_iff.1 hu
        have g0 := hat j hj1
        rw [add_add] at g0
        rw [g0]
        exact hu
    refine ⟨List.ofFn fun i => (hone i).choose, by simp, hl, by unfold maxLen at hm; exact hm, fun hpos => ?_⟩
    have h0 : 0 < len := by simpa using hpos
    refine ⟨ad, rfl, ?_, fun i u hu => ?_⟩
    · have := World.block_lt_of_cell? W _ ((hone ⟨0, h0⟩).choose_spec 0 _ rfl)
      rwa [block_add] at this
    · have hlen := (List.getElem?_eq_some_iff.1 hu).1
      rw [ev_length] at hlen
      have hk : encI.k = 2 := rfl
      simp only [List.length_ofFn, hk] at hlen
      have hd := Nat.div_add_mod i 2
      have hm5 := Nat.mod_lt i (show 0 < 2 by omega)
      have hi2 : i / 2 < len := by omega
      have hx : (List.ofFn fun i => (hone i).choose)[i / 2]? = some (hone ⟨i / 2, hi2⟩).choose := by rw [List.getElem?_ofFn, dif_pos hi2]
      have hg := ev_get encI hx (i := i % 2) hm5
      rw [hk, show i / 2 * 2 + i % 2 = i by omega, hu] at hg
      have := (hone ⟨i / 2, hi2⟩).choose_spec (i % 2) u hg.symm
      rw [show i / 2 * 2 + i % 2 = i by omega] at this
      exact this

/-! ### RevsetPlays -/
namespace revsetPlays
/-- WHAT THE WALK GIVES, FOR EVERY ARGUMENT AND EVERY WORLD. -/
theorem contract (H : Type) (enc : TypeId × Value → H) (W : World) (base : Nat) (args : Array Value) (ds gs : List (DataW H)) (before : List MemPlace)
    (hval : ∀ (j : Nat) t v, Try.f3.params[j]? = some t → args[j]? = some v → Value.okWide Try.prog W .any base t v)
    (hW : DataW.Whole enc Try.prog Try.f3.params.toList Rows.revsetPlaysSpec.vars false W args.toList ds gs before) :
    Calls Try.prog 3 args W fun e W' => ∃ v, e = .returned v ∧ Rows.revsetPlaysSpec.post enc Try.prog Try.f3 false true false false W args v W' := by
  have hW' := hW
  obtain ⟨p, q, hA0, hV, rfl, hfz, hnd⟩ := hW
  have hA : DataW.TrodAll enc Try.prog W 0 (fun _ => true) true Try.f3.params.toList args.toList ds p := hA0
  rw [Try.params3] at hA hval
  obtain ⟨v0, vs0, d0, ds0, p0, q0, hargs, rfl, rfl, h0, r0⟩ := trodAll_cons hA
  obtain ⟨rfl, rfl, rfl⟩ := trodAll_nil r0
  obtain rfl : args = #[v0] := by cases args; simp_all
  obtain ⟨rfl, rfl⟩ := trodVars_none hV
  obtain ⟨a0, len0, cap0, rfl⟩ := okWide_slice Try.underlying22 (hval 0 22 v0 rfl rfl)
  have k0 := h0
  have lt0 : ∀ x ∈ p0, x.block < W.heap.size := by obtain ⟨m, hm⟩ := k0; exact DataW.trod_lt m _ _ _ hm
  obtain ⟨l0, rfl, hlc0, hcm0, hb0⟩ := deeds_of h0
  clear hA0
  refine (revsetPlays_walk lives11_any a0 l0 _ cap0 rfl hlc0 hcm0 W hb0).mono fun e W' ⟨he, bel⟩ => ?_
  subst he
  exact ⟨_, rfl, _, _, _, [], _, [], hW', trodAll_mk1 (shut_bool Try.underlying4 _), (trodAll_cons_mk (Below.trod laidOut (by kernel_rfl) (of_decide_eq_true (by kernel_rfl)) k0 bel lt0) trodAll_mk0), rfl, bel.frame _, fun h => by cases h⟩

set_option maxRecDepth 100000 in
theorem lifted (os : Os) (started : os.Started) (H : Type) (enc : TypeId × Value → H) :
    ReturnsInHanded {} Try.checked os 3 .any (Rows.revsetPlaysSpec.pre6 enc Try.prog Try.f3 Rows.revsetPlaysRow.domain false) (Rows.revsetPlaysSpec.post enc Try.prog Try.f3 false true false false) := by
  refine returnsInHanded_of_change (C := Try.checked) own started (by kernel_rfl) Try.func3
    (ChangeSpec.witness6 (enc := enc) (C := Try.checked) false ⟨#[], #[Value.slice none 0 0], []⟩ 8 (by kernel_rfl) (by kernel_rfl) (by kernel_rfl) (by kernel_rfl)) ?_
  intro W base args ds gs before hval hW _ _
  exact contract H enc W base args ds gs before hval hW

/-- THE STATEMENT. -/
theorem said : Rows.RevsetPlaysSaid :=
  OpenClaim.holds_of_wide 3 Try.f3 rfl rfl rfl rfl rfl rfl rfl ⟨rfl, rfl, rfl, rfl, rfl⟩ rfl rfl rfl rfl rfl (by kernel_rfl) Try.func3 (by kernel_rfl)
    (of_decide_eq_true (by kernel_rfl)) (by unfold Func.isWrapper; first | (rw [if_pos (by decide +kernel)]; kernel_rfl) | (rw [if_neg (by decide +kernel)]; exact ⟨rfl, rfl⟩))
    (fun os started H enc _ => lifted os started H enc)
end revsetPlays

/-! ### RevsetDeltas -/
namespace revsetDeltas
/-- WHAT THE WALK GIVES, FOR EVERY ARGUMENT AND EVERY WORLD. -/
theorem contract (H : Type) (enc : TypeId × Value → H) (W : World) (base : Nat) (args : Array Value) (ds gs : List (DataW H)) (before : List MemPlace)
    (hval : ∀ (j : Nat) t v, Try.f4.params[j]? = some t → args[j]? = some v → Value.okWide Try.prog W .any base t v)
    (hW : DataW.Whole enc Try.prog Try.f4.params.toList Rows.revsetDeltasSpec.vars false W args.toList ds gs before) :
    Calls Try.prog 4 args W fun e W' => ∃ v, e = .returned v ∧ Rows.revsetDeltasSpec.post enc Try.prog Try.f4 false true false false W args v W' := by
  have hW' := hW
  obtain ⟨p, q, hA0, hV, rfl, hfz, hnd⟩ := hW
  have hA : DataW.TrodAll enc Try.prog W 0 (fun _ => true) true Try.f4.params.toList args.toList ds p := hA0
  rw [Try.params4] at hA hval
  obtain ⟨v0, vs0, d0, ds0, p0, q0, hargs, rfl, rfl, h0, r0⟩ := trodAll_cons hA
  obtain ⟨v1, vs1, d1, ds1, p1, q1, rfl, rfl, rfl, h1, r1⟩ := trodAll_cons r0
  obtain ⟨rfl, rfl, rfl⟩ := trodAll_nil r1
  obtain rfl : args = #[v0, v1] := by cases args; simp_all
  obtain ⟨rfl, rfl⟩ := trodVars_none hV
  obtain ⟨a0, len0, cap0, rfl⟩ := okWide_slice Try.underlying22 (hval 0 22 v0 rfl rfl)
  have k0 := h0
  have lt0 : ∀ x ∈ p0, x.block < W.heap.size := by obtain ⟨m, hm⟩ := k0; exact DataW.trod_lt m _ _ _ hm
  obtain ⟨l0, rfl, hlc0, hcm0, hb0⟩ := deeds_of h0
  obtain ⟨a1, len1, cap1, rfl⟩ := okWide_slice Try.underlying30 (hval 1 30 v1 rfl rfl)
  have k1 := h1
  have lt1 : ∀ x ∈ p1, x.block < W.heap.size := by obtain ⟨m, hm⟩ := k1; exact DataW.trod_lt m _ _ _ hm
  obtain ⟨l1, rfl, hlc1, hcm1, hb1⟩ := ints_of h1
  clear hA0
  refine (revsetDeltas_walk lives11_any a0 l0 _ cap0 rfl hlc0 hcm0 a1 l1 _ cap1 rfl hlc1 hcm1 W hb0 hb1).mono fun e W' ⟨he, bel⟩ => ?_
  subst he
  exact ⟨_, rfl, _, _, _, [], _, [], hW', trodAll_mk1 (shut_bool Try.underlying4 _), (trodAll_cons_mk (Below.trod laidOut (by kernel_rfl) (of_decide_eq_true (by kernel_rfl)) k0 bel lt0) (trodAll_cons_mk (Below.trod laidOut (by kernel_rfl) (of_decide_eq_true (by kernel_rfl)) k1 bel lt1) trodAll_mk0)), rfl, bel.frame _, fun h => by cases h⟩

set_option maxRecDepth 100000 in
theorem lifted (os : Os) (started : os.Started) (H : Type) (enc : TypeId × Value → H) :
    ReturnsInHanded {} Try.checked os 4 .any (Rows.revsetDeltasSpec.pre6 enc Try.prog Try.f4 Rows.revsetDeltasRow.domain false) (Rows.revsetDeltasSpec.post enc Try.prog Try.f4 false true false false) := by
  refine returnsInHanded_of_change (C := Try.checked) own started (by kernel_rfl) Try.func4
    (ChangeSpec.witness6 (enc := enc) (C := Try.checked) false ⟨#[], #[Value.slice none 0 0, Value.slice none 0 0], []⟩ 8 (by kernel_rfl) (by kernel_rfl) (by kernel_rfl) (by kernel_rfl)) ?_
  intro W base args ds gs before hval hW _ _
  exact contract H enc W base args ds gs before hval hW

/-- THE STATEMENT. -/
theorem said : Rows.RevsetDeltasSaid :=
  OpenClaim.holds_of_wide 4 Try.f4 rfl rfl rfl rfl rfl rfl rfl ⟨rfl, rfl, rfl, rfl, rfl⟩ rfl rfl rfl rfl rfl (by kernel_rfl) Try.func4 (by kernel_rfl)
    (of_decide_eq_true (by kernel_rfl)) (by unfold Func.isWrapper; first | (rw [if_pos (by decide +kernel)]; kernel_rfl) | (rw [if_neg (by decide +kernel)]; exact ⟨rfl, rfl⟩))
    (fun os started H enc _ => lifted os started H enc)
end revsetDeltas

/-! ### RevsetGrows -/
namespace revsetGrows
/-- WHAT THE WALK GIVES, FOR EVERY ARGUMENT AND EVERY WORLD. -/
theorem contract (H : Type) (enc : TypeId × Value → H) (W : World) (base : Nat) (args : Array Value) (ds gs : List (DataW H)) (before : List MemPlace)
    (hval : ∀ (j : Nat) t v, Try.f5.params[j]? = some t → args[j]? = some v → Value.okWide Try.prog W .any base t v)
    (hW : DataW.Whole enc Try.prog Try.f5.params.toList Rows.revsetGrowsSpec.vars false W args.toList ds gs before) :
    Calls Try.prog 5 args W fun e W' => ∃ v, e = .returned v ∧ Rows.revsetGrowsSpec.post enc Try.prog Try.f5 false true false false W args v W' := by
  have hW' := hW
  obtain ⟨p, q, hA0, hV, rfl, hfz, hnd⟩ := hW
  have hA : DataW.TrodAll enc Try.prog W 0 (fun _ => true) true Try.f5.params.toList args.toList ds p := hA0
  rw [Try.params5] at hA hval
  obtain ⟨v0, vs0, d0, ds0, p0, q0, hargs, rfl, rfl, h0, r0⟩ := trodAll_cons hA
  obtain ⟨rfl, rfl, rfl⟩ := trodAll_nil r0
  obtain rfl : args = #[v0] := by cases args; simp_all
  obtain ⟨rfl, rfl⟩ := trodVars_none hV
  obtain ⟨a0, len0, cap0, rfl⟩ := okWide_slice Try.underlying22 (hval 0 22 v0 rfl rfl)
  have k0 := h0
  have lt0 : ∀ x ∈ p0, x.block < W.heap.size := by obtain ⟨m, hm⟩ := k0; exact DataW.trod_lt m _ _ _ hm
  obtain ⟨l0, rfl, hlc0, hcm0, hb0⟩ := deeds_of h0
  clear hA0
  refine (revsetGrows_walk lives11_any a0 l0 _ cap0 rfl hlc0 hcm0 W hb0).mono fun e W' ⟨he, bel⟩ => ?_
  subst he
  exact ⟨_, rfl, _, _, _, [], _, [], hW', trodAll_mk1 (shut_bool Try.underlying4 _), (trodAll_cons_mk (Below.trod laidOut (by kernel_rfl) (of_decide_eq_true (by kernel_rfl)) k0 bel lt0) trodAll_mk0), rfl, bel.frame _, fun h => by cases h⟩

set_option maxRecDepth 100000 in
theorem lifted (os : Os) (started : os.Started) (H : Type) (enc : TypeId × Value → H) :
    ReturnsInHanded {} Try.checked os 5 .any (Rows.revsetGrowsSpec.pre6 enc Try.prog Try.f5 Rows.revsetGrowsRow.domain false) (Rows.revsetGrowsSpec.post enc Try.prog Try.f5 false true false false) := by
  refine returnsInHanded_of_change (C := Try.checked) own started (by kernel_rfl) Try.func5
    (ChangeSpec.witness6 (enc := enc) (C := Try.checked) false ⟨#[], #[Value.slice none 0 0], []⟩ 8 (by kernel_rfl) (by kernel_rfl) (by kernel_rfl) (by kernel_rfl)) ?_
  intro W base args ds gs before hval hW _ _
  exact contract H enc W base args ds gs before hval hW

/-- THE STATEMENT. -/
theorem said : Rows.RevsetGrowsSaid :=
  OpenClaim.holds_of_wide 5 Try.f5 rfl rfl rfl rfl rfl rfl rfl ⟨rfl, rfl, rfl, rfl, rfl⟩ rfl rfl rfl rfl rfl (by kernel_rfl) Try.func5 (by kernel_rfl)
    (of_decide_eq_true (by kernel_rfl)) (by unfold Func.isWrapper; first | (rw [if_pos (by decide +kernel)]; kernel_rfl) | (rw [if_neg (by decide +kernel)]; exact ⟨rfl, rfl⟩))
    (fun os started H enc _ => lifted os started H enc)
end revsetGrows

/-! ### RevsetJoined -/
namespace revsetJoined
/-- WHAT THE WALK GIVES, FOR EVERY ARGUMENT AND EVERY WORLD. -/
theorem contract (H : Type) (enc : TypeId × Value → H) (W : World) (base : Nat) (args : Array Value) (ds gs : List (DataW H)) (before : List MemPlace)
    (hval : ∀ (j : Nat) t v, Try.f6.params[j]? = some t → args[j]? = some v → Value.okWide Try.prog W .any base t v)
    (hW : DataW.Whole enc Try.prog Try.f6.params.toList Rows.revsetJoinedSpec.vars false W args.toList ds gs before) :
    Calls Try.prog 6 args W fun e W' => ∃ v, e = .returned v ∧ Rows.revsetJoinedSpec.post enc Try.prog Try.f6 false true false false W args v W' := by
  have hW' := hW
  obtain ⟨p, q, hA0, hV, rfl, hfz, hnd⟩ := hW
  have hA : DataW.TrodAll enc Try.prog W 0 (fun _ => true) true Try.f6.params.toList args.toList ds p := hA0
  rw [Try.params6] at hA hval
  obtain ⟨v0, vs0, d0, ds0, p0, q0, hargs, rfl, rfl, h0, r0⟩ := trodAll_cons hA
  obtain ⟨v1, vs1, d1, ds1, p1, q1, rfl, rfl, rfl, h1, r1⟩ := trodAll_cons r0
  obtain ⟨v2, vs2, d2, ds2, p2, q2, rfl, rfl, rfl, h2, r2⟩ := trodAll_cons r1
  obtain ⟨rfl, rfl, rfl⟩ := trodAll_nil r2
  obtain rfl : args = #[v0, v1, v2] := by cases args; simp_all
  obtain ⟨rfl, rfl⟩ := trodVars_none hV
  obtain ⟨a0, len0, cap0, rfl⟩ := okWide_slice Try.underlying47 (hval 0 47 v0 rfl rfl)
  have k0 := h0
  have lt0 : ∀ x ∈ p0, x.block < W.heap.size := by obtain ⟨m, hm⟩ := k0; exact DataW.trod_lt m _ _ _ hm
  obtain ⟨l0, rfl, hlc0, hcm0, hb0⟩ := ids_of h0
  obtain ⟨a1, len1, cap1, rfl⟩ := okWide_slice Try.underlying30 (hval 1 30 v1 rfl rfl)
  have k1 := h1
  have lt1 : ∀ x ∈ p1, x.block < W.heap.size := by obtain ⟨m, hm⟩ := k1; exact DataW.trod_lt m _ _ _ hm
  obtain ⟨l1, rfl, hlc1, hcm1, hb1⟩ := ints_of h1
  obtain ⟨a2, len2, cap2, rfl⟩ := okWide_slice Try.underlying30 (hval 2 30 v2 rfl rfl)
  have k2 := h2
  have lt2 : ∀ x ∈ p2, x.block < W.heap.size := by obtain ⟨m, hm⟩ := k2; exact DataW.trod_lt m _ _ _ hm
  obtain ⟨l2, rfl, hlc2, hcm2, hb2⟩ := ints_of h2
  clear hA0
  refine (revsetJoined_walk lives11_any a0 l0 _ cap0 rfl hlc0 hcm0 a1 l1 _ cap1 rfl hlc1 hcm1 a2 l2 _ cap2 rfl hlc2 hcm2 W hb0 hb1 hb2).mono fun e W' ⟨he, bel⟩ => ?_
  subst he
  exact ⟨_, rfl, _, _, _, [], _, [], hW', trodAll_mk1 (shut_bool Try.underlying4 _), (trodAll_cons_mk (Below.trod laidOut (by kernel_rfl) (of_decide_eq_true (by kernel_rfl)) k0 bel lt0) (trodAll_cons_mk (Below.trod laidOut (by kernel_rfl) (of_decide_eq_true (by kernel_rfl)) k1 bel lt1) (trodAll_cons_mk (Below.trod laidOut (by kernel_rfl) (of_decide_eq_true (by kernel_rfl)) k2 bel lt2) trodAll_mk0))), rfl, bel.frame _, fun h => by cases h⟩

set_option maxRecDepth 100000 in
theorem lifted (os : Os) (started : os.Started) (H : Type) (enc : TypeId × Value → H) :
    ReturnsInHanded {} Try.checked os 6 .any (Rows.revsetJoinedSpec.pre6 enc Try.prog Try.f6 Rows.revsetJoinedRow.domain false) (Rows.revsetJoinedSpec.post enc Try.prog Try.f6 false true false false) := by
  refine returnsInHanded_of_change (C := Try.checked) own started (by kernel_rfl) Try.func6
    (ChangeSpec.witness6 (enc := enc) (C := Try.checked) false ⟨#[], #[Value.slice none 0 0, Value.slice none 0 0, Value.slice none 0 0], []⟩ 8 (by kernel_rfl) (by kernel_rfl) (by kernel_rfl) (by kernel_rfl)) ?_
  intro W base args ds gs before hval hW _ _
  exact contract H enc W base args ds gs before hval hW

/-- THE STATEMENT. -/
theorem said : Rows.RevsetJoinedSaid :=
  OpenClaim.holds_of_wide 6 Try.f6 rfl rfl rfl rfl rfl rfl rfl ⟨rfl, rfl, rfl, rfl, rfl⟩ rfl rfl rfl rfl rfl (by kernel_rfl) Try.func6 (by kernel_rfl)
    (of_decide_eq_true (by kernel_rfl)) (by unfold Func.isWrapper; first | (rw [if_pos (by decide +kernel)]; kernel_rfl) | (rw [if_neg (by decide +kernel)]; exact ⟨rfl, rfl⟩))
    (fun os started H enc _ => lifted os started H enc)
end revsetJoined

/-! ### RevsetOwns -/
namespace revsetOwns
/-- WHAT THE WALK GIVES, FOR EVERY ARGUMENT AND EVERY WORLD. -/
theorem contract (H : Type) (enc : TypeId × Value → H) (W : World) (base : Nat) (args : Array Value) (ds gs : List (DataW H)) (before : List MemPlace)
    (hval : ∀ (j : Nat) t v, Try.f7.params[j]? = some t → args[j]? = some v → Value.okWide Try.prog W .any base t v)
    (hW : DataW.Whole enc Try.prog Try.f7.params.toList Rows.revsetOwnsSpec.vars false W args.toList ds gs before) :
    Calls Try.prog 7 args W fun e W' => ∃ v, e = .returned v ∧ Rows.revsetOwnsSpec.post enc Try.prog Try.f7 false true false false W args v W' := by
  have hW' := hW
  obtain ⟨p, q, hA0, hV, rfl, hfz, hnd⟩ := hW
  have hA : DataW.TrodAll enc Try.prog W 0 (fun _ => true) true Try.f7.params.toList args.toList ds p := hA0
  rw [Try.params7] at hA hval
  obtain ⟨v0, vs0, d0, ds0, p0, q0, hargs, rfl, rfl, h0, r0⟩ := trodAll_cons hA
  obtain ⟨v1, vs1, d1, ds1, p1, q1, rfl, rfl, rfl, h1, r1⟩ := trodAll_cons r0
  obtain ⟨rfl, rfl, rfl⟩ := trodAll_nil r1
  obtain rfl : args = #[v0, v1] := by cases args; simp_all
  obtain ⟨rfl, rfl⟩ := trodVars_none hV
  obtain ⟨a0, len0, cap0, rfl⟩ := okWide_slice Try.underlying22 (hval 0 22 v0 rfl rfl)
  have k0 := h0
  have lt0 : ∀ x ∈ p0, x.block < W.heap.size := by obtain ⟨m, hm⟩ := k0; exact DataW.trod_lt m _ _ _ hm
  obtain ⟨l0, rfl, hlc0, hcm0, hb0⟩ := deeds_of h0
  obtain ⟨a1, len1, cap1, rfl⟩ := okWide_slice Try.underlying22 (hval 1 22 v1 rfl rfl)
  have k1 := h1
  have lt1 : ∀ x ∈ p1, x.block < W.heap.size := by obtain ⟨m, hm⟩ := k1; exact DataW.trod_lt m _ _ _ hm
  obtain ⟨l1, rfl, hlc1, hcm1, hb1⟩ := deeds_of h1
  clear hA0
  refine (revsetOwns_walk lives11_any a0 l0 _ cap0 rfl hlc0 hcm0 a1 l1 _ cap1 rfl hlc1 hcm1 W hb0 hb1).mono fun e W' ⟨he, bel⟩ => ?_
  subst he
  exact ⟨_, rfl, _, _, _, [], _, [], hW', trodAll_mk1 (shut_bool Try.underlying4 _), (trodAll_cons_mk (Below.trod laidOut (by kernel_rfl) (of_decide_eq_true (by kernel_rfl)) k0 bel lt0) (trodAll_cons_mk (Below.trod laidOut (by kernel_rfl) (of_decide_eq_true (by kernel_rfl)) k1 bel lt1) trodAll_mk0)), rfl, bel.frame _, fun h => by cases h⟩

set_option maxRecDepth 100000 in
theorem lifted (os : Os) (started : os.Started) (H : Type) (enc : TypeId × Value → H) :
    ReturnsInHanded {} Try.checked os 7 .any (Rows.revsetOwnsSpec.pre6 enc Try.prog Try.f7 Rows.revsetOwnsRow.domain false) (Rows.revsetOwnsSpec.post enc Try.prog Try.f7 false true false false) := by
  refine returnsInHanded_of_change (C := Try.checked) own started (by kernel_rfl) Try.func7
    (ChangeSpec.witness6 (enc := enc) (C := Try.checked) false ⟨#[], #[Value.slice none 0 0, Value.slice none 0 0], []⟩ 8 (by kernel_rfl) (by kernel_rfl) (by kernel_rfl) (by kernel_rfl)) ?_
  intro W base args ds gs before hval hW _ _
  exact contract H enc W base args ds gs before hval hW

/-- THE STATEMENT. -/
theorem said : Rows.RevsetOwnsSaid :=
  OpenClaim.holds_of_wide 7 Try.f7 rfl rfl rfl rfl rfl rfl rfl ⟨rfl, rfl, rfl, rfl, rfl⟩ rfl rfl rfl rfl rfl (by kernel_rfl) Try.func7 (by kernel_rfl)
    (of_decide_eq_true (by kernel_rfl)) (by unfold Func.isWrapper; first | (rw [if_pos (by decide +kernel)]; kernel_rfl) | (rw [if_neg (by decide +kernel)]; exact ⟨rfl, rfl⟩))
    (fun os started H enc _ => lifted os started H enc)
end revsetOwns
end Go.Proofs.Ytifoppnpgljphaa.Sh
