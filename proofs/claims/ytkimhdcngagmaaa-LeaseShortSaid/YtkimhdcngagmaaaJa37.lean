/- Layer 13. LeasePlays: whatever a book learns and hears, it answers, holds, and tells just what the document's own does: any domain, any deeds (the first 20, each with the first 40 of its credentials), any tick, any IDs (the first 20). LeaseWanes: as time goes on, with nothing learned, no more is held, and nothing is fresh again: any domain, any deeds (the first 20), any two ticks. LeaseOwns: what is handed in stays, and what is told is new: any domain, any deeds (the first 15), whose credentials are written over once they were handed in, any tick. In each the document's examples hold. Conditions: none. -/
import Derived.Test.YtkimhdcngagmaaaRows
import Derived.Test.YtkimhdcngagmaaaJa33
import Derived.Test.YtkimhdcngagmaaaJa34
import Derived.Test.YtkimhdcngagmaaaJa36
import Derived.Deep.Slices
import Derived.Deep.Strs
import Derived.ProofKit
import Derived.OpenShut
import Derived.ChangeOld
import Derived.Deep.DeepHandedRow
import Derived.ChangeSame
import Derived.JoinedOf
import Derived.JoinedAt
set_option linter.unusedVariables false
set_option linter.unusedSimpArgs false
namespace Go.Proofs.Ytkimhdcngagmaaa.Sh
open Go Go.ChangeShapes Go.WideShapes Go.ChangeAt Go.RowKit
set_option maxRecDepth 100000
set_option linter.unusedSimpArgs false
set_option linter.unusedVariables false

theorem own : ownKnob Try.prog.godebug = none := by kernel_rfl
theorem laidOut : laidOutB Try.prog = true := by kernel_rfl
theorem cellsStr : Try.prog.cellsOf 9 = 1 := by kernel_rfl
theorem cellsInt : Try.prog.cellsOf 3 = 1 := by kernel_rfl
theorem cellsRole : Try.prog.cellsOf 51 = 2 := by kernel_rfl
theorem cellsId : Try.prog.cellsOf 49 = 2 := by kernel_rfl
theorem cellsCred : Try.prog.cellsOf 53 = 9 := by kernel_rfl
theorem cellsCreds : Try.prog.cellsOf 34 = 1 := by kernel_rfl
theorem cellsDeed : Try.prog.cellsOf 36 = 4 := by kernel_rfl
theorem in64_of_wf {n : Int} (h : (Lit.int .i64 n).wf = true) : In64 n := by
  simp [Lit.wf, IntKind.min, IntKind.max, IntKind.signed, IntKind.bits] at h
  unfold In64
  omega
section
variable {W : World} {H : Type} {enc : TypeId × Value → H}
/-- A slice that came in, by its cell: its elements, each read. -/
theorem slice_cell {α : Type} {E : Enc α} {S T : TypeId} (hS : Try.prog.underlying S = some (.slice T)) (hk : Try.prog.cellsOf T = E.k) (R : α → Prop)
    (one : ∀ {n : Nat} {cs : List Value} {y : DataW H × List MemPlace}, cs.length = E.k → DataW.trod enc Try.prog W 0 (fun _ => true) true n T cs = some y → ∃ x, cs = E.cells x ∧ R x)
    {n : Nat} {cs : List Value} {y : DataW H × List MemPlace} (h : DataW.trod enc Try.prog W 0 (fun _ => true) true n S cs = some y) :
    ∃ (A : Option Addr) (len cap : Nat) (l : List α), cs = [.slice A len cap] ∧ l.length = len ∧ len ≤ cap ∧ cap ≤ 9223372036854775807 ∧ Els E W W.heap.size A l ∧ ∀ x ∈ l, R x := by
  rcases Go.Deep.open_slice hS h with ⟨rfl, _⟩ | ⟨ad, len, cap, m, n, D, Pl, rfl, _, hl, hm, hmm, _, hi⟩
  · exact ⟨none, 0, 0, [], rfl, rfl, Nat.le_refl _, by omega, Els.nil, fun x hx => by simp at hx⟩
  · rw [if_pos rfl] at hmm
    have hone : ∀ i : Fin len, ∃ z : α, R z ∧ ∀ j u, (E.cells z)[j]? = some u → W.cell? (ad.add (i.1 * E.k + j)) = some u := fun i => by
      obtain ⟨cs', hc, ht⟩ := hi i.1 (by have := i.2; omega)
      rw [hk] at hc
      obtain ⟨_, hcl, hat⟩ := World.cells?_some hc
      obtain ⟨z, rfl, k⟩ := one hcl ht
      refine ⟨z, k, fun j u hu => ?_⟩
      obtain ⟨hj1, hj2⟩ := List.getElem?_eq_some_iff.1 hu
      have g0 := hat j (by rw [← hcl]; exact hj1)
      rw [add_add] at g0
      rw [g0]
      simpa using hu
    refine ⟨some ad, len, cap, List.ofFn fun i => (hone i).choose, rfl, by simp, hl, by unfold maxLen at hm; exact hm, fun hpos => ?_, fun x hx => ?_⟩
    · have h0 : 0 < len := by simpa using hpos
      obtain ⟨u0, hu0⟩ : ∃ u, (E.cells (hone ⟨0, h0⟩).choose)[0]? = some u := ⟨_, List.getElem?_eq_getElem (by rw [E.len]; exact E.pos)⟩
      refine ⟨ad, rfl, ?_, fun i u hu => ?_⟩
      · have := World.block_lt_of_cell? W _ ((hone ⟨0, h0⟩).choose_spec.2 0 _ hu0)
        rwa [block_add] at this
      · have hlen := (List.getElem?_eq_some_iff.1 hu).1
        rw [ev_length, List.length_ofFn] at hlen
        have hp := E.pos
        have hi2 : i / E.k < len := Nat.div_lt_of_lt_mul (by rw [Nat.mul_comm]; exact hlen)
        have hm5 := Nat.mod_lt i hp
        have hx : (List.ofFn fun i => (hone i).choose)[i / E.k]? = some (hone ⟨i / E.k, hi2⟩).choose := by rw [List.getElem?_ofFn, dif_pos hi2]
        have hg := ev_get E hx (i := i % E.k) hm5
        have hdm : i / E.k * E.k + i % E.k = i := by rw [Nat.mul_comm]; exact Nat.div_add_mod i E.k
        rw [hdm, hu] at hg
        have := (hone ⟨i / E.k, hi2⟩).choose_spec.2 (i % E.k) u hg.symm
        rw [hdm] at this
        exact this
    · obtain ⟨i, hi2, e⟩ := List.getElem_of_mem hx
      rw [List.length_ofFn] at hi2
      rw [List.getElem_ofFn] at e
      rw [← e]
      exact (hone ⟨i, hi2⟩).choose_spec.1
theorem id_cells {n : Nat} {cs : List Value} {y : DataW H × List MemPlace} (hl : cs.length = 2) (h : DataW.trod enc Try.prog W 0 (fun _ => true) true n 49 cs = some y) : ∃ x : Int × Int, cs = encI.cells x ∧ In64 x.1 := by
  match cs, hl with
  | [c0, c1], _ =>
    obtain ⟨y0, y1, m, _, _, h0, h1⟩ := trod_struct2 Try.underlying49 h
    obtain ⟨o, e0, _, w0⟩ := DataW.trod_int Try.underlying3 h0
    obtain ⟨n, e1, _, _⟩ := DataW.trod_int Try.underlying3 h1
    simp [cellsInt] at e0 e1
    subst e0 e1
    exact ⟨(o, n), rfl, in64_of_wf w0⟩
theorem credCells {n : Nat} {cs : List Value} {y : DataW H × List MemPlace} (hl : cs.length = 9) (h : DataW.trod enc Try.prog W 0 (fun _ => true) true n 53 cs = some y) : ∃ x : Crd, cs = encCr.cells x ∧ True := by
  obtain ⟨xs, n, _, rfl, _, hlen, hf⟩ := DataW.trod_struct Try.underlying53 h
  match xs, hlen with
  | [y0, y1, y2, y3, y4, y5], _ =>
    match cs, hl with
    | [c0, c1, c2, c3, c4, c5, c6, c7, c8], _ =>
      have h0 := hf 0 _ rfl
      have h1 := hf 1 _ rfl
      have h2 := hf 2 _ rfl
      have h3 := hf 3 _ rfl
      have h4 := hf 4 _ rfl
      have h5 := hf 5 _ rfl
      simp [cellsStr, cellsInt, cellsRole, cellsId] at h0 h1 h2 h3 h4 h5
      obtain ⟨a0, a1, m0, rfl, _, g0, g1⟩ := trod_struct2 Try.underlying49 h0
      obtain ⟨k0, e0, _, _⟩ := DataW.trod_int Try.underlying3 g0
      obtain ⟨k1, e1, _, _⟩ := DataW.trod_int Try.underlying3 g1
      obtain ⟨s2, e2, _, _⟩ := DataW.trod_string Try.underlying9 h1
      obtain ⟨k3, e3, _, _⟩ := DataW.trod_int Try.underlying3 h2
      obtain ⟨s4, e4, _, _⟩ := DataW.trod_string Try.underlying9 h3
      obtain ⟨b0, b1, m1, rfl, _, g2, g3⟩ := trod_struct2 Try.underlying51 h4
      obtain ⟨s5, e5, _, _⟩ := DataW.trod_string Try.underlying9 g2
      obtain ⟨s6, e6, _, _⟩ := DataW.trod_string Try.underlying9 g3
      obtain ⟨d0, d1, m2, rfl, _, g4, g5⟩ := trod_struct2 Try.underlying51 h5
      obtain ⟨s7, e7, _, _⟩ := DataW.trod_string Try.underlying9 g4
      obtain ⟨s8, e8, _, _⟩ := DataW.trod_string Try.underlying9 g5
      simp [cellsStr, cellsInt] at e0 e1 e2 e3 e4 e5 e6 e7 e8
      subst e0 e1 e2 e3 e4 e5 e6 e7 e8
      exact ⟨⟨k0, k1, s2, k3, s4, s5, s6, s7, s8⟩, rfl, trivial⟩
theorem creds_cell {n : Nat} {cs : List Value} {y : DataW H × List MemPlace} (h : DataW.trod enc Try.prog W 0 (fun _ => true) true n 34 cs = some y) :
    ∃ (A : Option Addr) (len cap : Nat) (l : List Crd), cs = [.slice A len cap] ∧ l.length = len ∧ len ≤ cap ∧ cap ≤ 9223372036854775807 ∧ Els encCr W W.heap.size A l := by
  obtain ⟨A, len, cap, l, h1, h2, h3, h4, h5, _⟩ := slice_cell (E := encCr) Try.underlying34 cellsCred (fun _ => True) (fun hl h => credCells hl h) h
  exact ⟨A, len, cap, l, h1, h2, h3, h4, h5⟩
/-- What a deed's cells say. -/
def DeedIs (W : World) (h : DHd) (x : Dd) : Prop := h.kind = x.kind ∧ h.d = x.d ∧ h.a = x.a ∧ x.l.length = h.n ∧ h.n ≤ h.c ∧ h.c ≤ 9223372036854775807 ∧ Els encCr W W.heap.size h.A x.l
theorem deed_cells {n : Nat} {cs : List Value} {y : DataW H × List MemPlace} (hl : cs.length = 4) (h : DataW.trod enc Try.prog W 0 (fun _ => true) true n 36 cs = some y) :
    ∃ x : DHd, cs = encD.cells x ∧ ∃ d : Dd, DeedIs W x d := by
  obtain ⟨xs, n, _, rfl, _, hlen, hf⟩ := DataW.trod_struct Try.underlying36 h
  match xs, hlen with
  | [y0, y1, y2, y3], _ =>
    match cs, hl with
    | [c0, c1, c2, c3], _ =>
      have h0 := hf 0 _ rfl
      have h1 := hf 1 _ rfl
      have h2 := hf 2 _ rfl
      have h3 := hf 3 _ rfl
      simp [cellsInt, cellsCreds] at h0 h1 h2 h3
      obtain ⟨k0, e0, _, _⟩ := DataW.trod_int Try.underlying3 h0
      obtain ⟨k1, e1, _, _⟩ := DataW.trod_int Try.underlying3 h1
      obtain ⟨k2, e2, _, _⟩ := DataW.trod_int Try.underlying3 h2
      obtain ⟨A, len, cap, l, e3, q1, q2, q3, q4⟩ := creds_cell h3
      simp at e0 e1 e2 e3
      subst e0 e1 e2 e3
      exact ⟨⟨k0, k1, k2, A, len, cap⟩, rfl, ⟨k0, k1, k2, l⟩, rfl, rfl, rfl, q1, q2, q3, q4⟩
end
/-- WHAT THE WALK IS TOLD OF A SLICE OF DEEDS THAT CAME IN. -/
theorem deeds_of {W : World} {a : Option Addr} {len cap : Nat} {H : Type} {enc : TypeId × Value → H} {p : List MemPlace} {d : DataW H}
    (h : DataW.Trod enc Try.prog W 0 (fun _ => true) true 22 (Value.slice a len cap) d p) :
    ∃ xs : List Dd, xs.length = len ∧ len ≤ cap ∧ cap ≤ 9223372036854775807 ∧ DeedsAt W W.heap.size a xs := by
  obtain ⟨fuel, hf⟩ := h
  obtain ⟨A, n, c, l, e, h1, h2, h3, h5, h6⟩ := slice_cell (E := encD) Try.underlying22 cellsDeed (fun x => ∃ d : Dd, DeedIs W x d) (fun hl h => deed_cells hl h) hf
  simp [Value.cells] at e
  obtain ⟨rfl, rfl, rfl⟩ := e
  classical
  obtain ⟨f, hf⟩ : ∃ f : DHd → Dd, ∀ x ∈ l, DeedIs W x (f x) := ⟨fun x => if h : ∃ d, DeedIs W x d then h.choose else ⟨0, 0, 0, []⟩, fun x hx => by
    simp only [dif_pos (h6 x hx)]
    exact (h6 x hx).choose_spec⟩
  refine ⟨l.map f, by rw [List.length_map]; exact h1, h2, h3, l, by simp, h5, fun i x c hx hc => ?_⟩
  rw [List.getElem?_map, hx] at hc
  simp only [Option.map_some, Option.some.injEq] at hc
  subst hc
  exact hf x (List.mem_of_getElem? hx)
/-- WHAT THE WALK IS TOLD OF A SLICE OF IDS THAT CAME IN. -/
theorem ids_of {W : World} {a : Option Addr} {len cap : Nat} {H : Type} {enc : TypeId × Value → H} {p : List MemPlace} {d : DataW H}
    (h : DataW.Trod enc Try.prog W 0 (fun _ => true) true 23 (Value.slice a len cap) d p) :
    ∃ xs : List (Int × Int), xs.length = len ∧ len ≤ cap ∧ cap ≤ 9223372036854775807 ∧ Els encI W W.heap.size a xs ∧ ∀ x ∈ xs, In64 x.1 := by
  obtain ⟨fuel, hf⟩ := h
  obtain ⟨A, n, c, l, e, h1, h2, h3, h5, h6⟩ := slice_cell (E := encI) Try.underlying23 cellsId (fun x => In64 x.1) (fun hl h => id_cells hl h) hf
  simp [Value.cells] at e
  obtain ⟨rfl, rfl, rfl⟩ := e
  exact ⟨l, h1, h2, h3, h5, h6⟩

/-! ### LeasePlays -/
namespace leasePlays
/-- WHAT THE WALK GIVES, FOR EVERY ARGUMENT AND EVERY WORLD. -/
theorem contract (H : Type) (enc : TypeId × Value → H) (W : World) (base : Nat) (args : Array Value) (ds gs : List (DataW H)) (before : List MemPlace)
    (hval : ∀ (j : Nat) t v, Try.f3.params[j]? = some t → args[j]? = some v → Value.okWide Try.prog W .any base t v)
    (hW : DataW.Whole enc Try.prog Try.f3.params.toList Rows.leasePlaysSpec.vars false W args.toList ds gs before) :
    Calls Try.prog 3 args W fun e W' => ∃ v, e = .returned v ∧ Rows.leasePlaysSpec.post enc Try.prog Try.f3 false true false false W args v W' := by
  have hW' := hW
  obtain ⟨p, q, hA0, hV, rfl, hfz, hnd⟩ := hW
  have hA : DataW.TrodAll enc Try.prog W 0 (fun _ => true) true Try.f3.params.toList args.toList ds p := hA0
  rw [Try.params3] at hA hval
  obtain ⟨v0, vs0, d0, ds0, p0, q0, hargs, rfl, rfl, h0, r0⟩ := trodAll_cons hA
  obtain ⟨v1, vs1, d1, ds1, p1, q1, rfl, rfl, rfl, h1, r1⟩ := trodAll_cons r0
  obtain ⟨v2, vs2, d2, ds2, p2, q2, rfl, rfl, rfl, h2, r2⟩ := trodAll_cons r1
  obtain ⟨v3, vs3, d3, ds3, p3, q3, rfl, rfl, rfl, h3, r3⟩ := trodAll_cons r2
  obtain ⟨rfl, rfl, rfl⟩ := trodAll_nil r3
  obtain rfl : args = #[v0, v1, v2, v3] := by cases args; simp_all
  obtain ⟨rfl, rfl⟩ := trodVars_none hV
  obtain ⟨x0, rfl, rfl, rfl, wx0⟩ := open_int Try.underlying3 (hval 0 3 v0 rfl rfl) h0
  have bx0 := Go.bounds_i64 wx0
  obtain ⟨a1, len1, cap1, rfl⟩ := okWide_slice Try.underlying22 (hval 1 22 v1 rfl rfl)
  have k1 := h1
  have lt1 : ∀ x ∈ p1, x.block < W.heap.size := by obtain ⟨m, hm⟩ := k1; exact DataW.trod_lt m _ _ _ hm
  obtain ⟨l1, rfl, hlc1, hcm1, hb1⟩ := deeds_of h1
  obtain ⟨x2, rfl, rfl, rfl, wx2⟩ := open_int Try.underlying3 (hval 2 3 v2 rfl rfl) h2
  have bx2 := Go.bounds_i64 wx2
  obtain ⟨a3, len3, cap3, rfl⟩ := okWide_slice Try.underlying23 (hval 3 23 v3 rfl rfl)
  have k3 := h3
  have lt3 : ∀ x ∈ p3, x.block < W.heap.size := by obtain ⟨m, hm⟩ := k3; exact DataW.trod_lt m _ _ _ hm
  obtain ⟨l3, rfl, hlc3, hcm3, hb3⟩ := ids_of h3
  clear hA0
  refine (leasePlays_walk x0 x2 a1 l1 _ cap1 rfl a3 l3 _ cap3 rfl hlc3 hcm3 hb3.2 W hb1 hb3.1).mono fun e W' ⟨he, bel⟩ => ?_
  subst he
  exact ⟨_, rfl, _, _, _, [], _, [], hW', trodAll_mk1 (shut_bool Try.underlying4 _), (trodAll_cons_mk (shut_int Try.underlying3 wx0) (trodAll_cons_mk (Below.trod laidOut (by kernel_rfl) (of_decide_eq_true (by kernel_rfl)) k1 bel lt1) (trodAll_cons_mk (shut_int Try.underlying3 wx2) (trodAll_cons_mk (Below.trod laidOut (by kernel_rfl) (of_decide_eq_true (by kernel_rfl)) k3 bel lt3) trodAll_mk0)))), rfl, bel.frame _, fun h => by cases h⟩

set_option maxRecDepth 100000 in
theorem lifted (os : Os) (started : os.Started) (H : Type) (enc : TypeId × Value → H) :
    ReturnsInHanded {} Try.checked os 3 .any (Rows.leasePlaysSpec.pre6 enc Try.prog Try.f3 Rows.leasePlaysRow.domain false) (Rows.leasePlaysSpec.post enc Try.prog Try.f3 false true false false) := by
  refine returnsInHanded_of_change (C := Try.checked) own started (by kernel_rfl) Try.func3
    (ChangeSpec.witness6 (enc := enc) (C := Try.checked) false ⟨#[], #[Value.int .i64 0, Value.slice none 0 0, Value.int .i64 0, Value.slice none 0 0], []⟩ 8 (by kernel_rfl) (by kernel_rfl) (by kernel_rfl) (by kernel_rfl)) ?_
  intro W base args ds gs before hval hW _ _
  exact contract H enc W base args ds gs before hval hW

/-- THE STATEMENT. -/
theorem said : Rows.LeasePlaysSaid :=
  OpenClaim.holds_of_wide 3 Try.f3 rfl rfl rfl rfl rfl rfl rfl ⟨rfl, rfl, rfl, rfl, rfl⟩ rfl rfl rfl rfl rfl (by kernel_rfl) Try.func3 (by kernel_rfl)
    (of_decide_eq_true (by kernel_rfl)) (by unfold Func.isWrapper; first | (rw [if_pos (by decide +kernel)]; kernel_rfl) | (rw [if_neg (by decide +kernel)]; exact ⟨rfl, rfl⟩))
    (fun os started H enc _ => lifted os started H enc)
end leasePlays

/-! ### LeaseWanes -/
namespace leaseWanes
/-- WHAT THE WALK GIVES, FOR EVERY ARGUMENT AND EVERY WORLD. -/
theorem contract (H : Type) (enc : TypeId × Value → H) (W : World) (base : Nat) (args : Array Value) (ds gs : List (DataW H)) (before : List MemPlace)
    (hval : ∀ (j : Nat) t v, Try.f5.params[j]? = some t → args[j]? = some v → Value.okWide Try.prog W .any base t v)
    (hW : DataW.Whole enc Try.prog Try.f5.params.toList Rows.leaseWanesSpec.vars false W args.toList ds gs before) :
    Calls Try.prog 5 args W fun e W' => ∃ v, e = .returned v ∧ Rows.leaseWanesSpec.post enc Try.prog Try.f5 false true false false W args v W' := by
  have hW' := hW
  obtain ⟨p, q, hA0, hV, rfl, hfz, hnd⟩ := hW
  have hA : DataW.TrodAll enc Try.prog W 0 (fun _ => true) true Try.f5.params.toList args.toList ds p := hA0
  rw [Try.params5] at hA hval
  obtain ⟨v0, vs0, d0, ds0, p0, q0, hargs, rfl, rfl, h0, r0⟩ := trodAll_cons hA
  obtain ⟨v1, vs1, d1, ds1, p1, q1, rfl, rfl, rfl, h1, r1⟩ := trodAll_cons r0
  obtain ⟨v2, vs2, d2, ds2, p2, q2, rfl, rfl, rfl, h2, r2⟩ := trodAll_cons r1
  obtain ⟨v3, vs3, d3, ds3, p3, q3, rfl, rfl, rfl, h3, r3⟩ := trodAll_cons r2
  obtain ⟨rfl, rfl, rfl⟩ := trodAll_nil r3
  obtain rfl : args = #[v0, v1, v2, v3] := by cases args; simp_all
  obtain ⟨rfl, rfl⟩ := trodVars_none hV
  obtain ⟨x0, rfl, rfl, rfl, wx0⟩ := open_int Try.underlying3 (hval 0 3 v0 rfl rfl) h0
  have bx0 := Go.bounds_i64 wx0
  obtain ⟨a1, len1, cap1, rfl⟩ := okWide_slice Try.underlying22 (hval 1 22 v1 rfl rfl)
  have k1 := h1
  have lt1 : ∀ x ∈ p1, x.block < W.heap.size := by obtain ⟨m, hm⟩ := k1; exact DataW.trod_lt m _ _ _ hm
  obtain ⟨l1, rfl, hlc1, hcm1, hb1⟩ := deeds_of h1
  obtain ⟨x2, rfl, rfl, rfl, wx2⟩ := open_int Try.underlying3 (hval 2 3 v2 rfl rfl) h2
  have bx2 := Go.bounds_i64 wx2
  obtain ⟨x3, rfl, rfl, rfl, wx3⟩ := open_int Try.underlying3 (hval 3 3 v3 rfl rfl) h3
  have bx3 := Go.bounds_i64 wx3
  clear hA0
  refine (leaseWanes_walk x0 x2 x3 a1 l1 _ cap1 rfl W hb1).mono fun e W' ⟨he, bel⟩ => ?_
  subst he
  exact ⟨_, rfl, _, _, _, [], _, [], hW', trodAll_mk1 (shut_bool Try.underlying4 _), (trodAll_cons_mk (shut_int Try.underlying3 wx0) (trodAll_cons_mk (Below.trod laidOut (by kernel_rfl) (of_decide_eq_true (by kernel_rfl)) k1 bel lt1) (trodAll_cons_mk (shut_int Try.underlying3 wx2) (trodAll_cons_mk (shut_int Try.underlying3 wx3) trodAll_mk0)))), rfl, bel.frame _, fun h => by cases h⟩

set_option maxRecDepth 100000 in
theorem lifted (os : Os) (started : os.Started) (H : Type) (enc : TypeId × Value → H) :
    ReturnsInHanded {} Try.checked os 5 .any (Rows.leaseWanesSpec.pre6 enc Try.prog Try.f5 Rows.leaseWanesRow.domain false) (Rows.leaseWanesSpec.post enc Try.prog Try.f5 false true false false) := by
  refine returnsInHanded_of_change (C := Try.checked) own started (by kernel_rfl) Try.func5
    (ChangeSpec.witness6 (enc := enc) (C := Try.checked) false ⟨#[], #[Value.int .i64 0, Value.slice none 0 0, Value.int .i64 0, Value.int .i64 0], []⟩ 8 (by kernel_rfl) (by kernel_rfl) (by kernel_rfl) (by kernel_rfl)) ?_
  intro W base args ds gs before hval hW _ _
  exact contract H enc W base args ds gs before hval hW

/-- THE STATEMENT. -/
theorem said : Rows.LeaseWanesSaid :=
  OpenClaim.holds_of_wide 5 Try.f5 rfl rfl rfl rfl rfl rfl rfl ⟨rfl, rfl, rfl, rfl, rfl⟩ rfl rfl rfl rfl rfl (by kernel_rfl) Try.func5 (by kernel_rfl)
    (of_decide_eq_true (by kernel_rfl)) (by unfold Func.isWrapper; first | (rw [if_pos (by decide +kernel)]; kernel_rfl) | (rw [if_neg (by decide +kernel)]; exact ⟨rfl, rfl⟩))
    (fun os started H enc _ => lifted os started H enc)
end leaseWanes

/-! ### LeaseOwns -/
namespace leaseOwns
/-- WHAT THE WALK GIVES, FOR EVERY ARGUMENT AND EVERY WORLD. -/
theorem contract (H : Type) (enc : TypeId × Value → H) (W : World) (base : Nat) (args : Array Value) (ds gs : List (DataW H)) (before : List MemPlace)
    (hval : ∀ (j : Nat) t v, Try.f6.params[j]? = some t → args[j]? = some v → Value.okWide Try.prog W .any base t v)
    (hW : DataW.Whole enc Try.prog Try.f6.params.toList Rows.leaseOwnsSpec.vars false W args.toList ds gs before) :
    Calls Try.prog 6 args W fun e W' => ∃ v, e = .returned v ∧ Rows.leaseOwnsSpec.post enc Try.prog Try.f6 false true false false W args v W' := by
  have hW' := hW
  obtain ⟨p, q, hA0, hV, rfl, hfz, hnd⟩ := hW
  have hA : DataW.TrodAll enc Try.prog W 0 (fun _ => true) true Try.f6.params.toList args.toList ds p := hA0
  rw [Try.params6] at hA hval
  obtain ⟨v0, vs0, d0, ds0, p0, q0, hargs, rfl, rfl, h0, r0⟩ := trodAll_cons hA
  obtain ⟨v1, vs1, d1, ds1, p1, q1, rfl, rfl, rfl, h1, r1⟩ := trodAll_cons r0
  obtain ⟨v2, vs2, d2, ds2, p2, q2, rfl, rfl, rfl, h2, r2⟩ := trodAll_cons r1
  obtain ⟨rfl, rfl, rfl⟩ := trodAll_nil r2
  obtain rfl : args = #[v0, v1, v2] := by cases args; simp_all
  obtain ⟨rfl, rfl⟩ := trodVars_none hV
  obtain ⟨x0, rfl, rfl, rfl, wx0⟩ := open_int Try.underlying3 (hval 0 3 v0 rfl rfl) h0
  have bx0 := Go.bounds_i64 wx0
  obtain ⟨a1, len1, cap1, rfl⟩ := okWide_slice Try.underlying22 (hval 1 22 v1 rfl rfl)
  have k1 := h1
  have lt1 : ∀ x ∈ p1, x.block < W.heap.size := by obtain ⟨m, hm⟩ := k1; exact DataW.trod_lt m _ _ _ hm
  obtain ⟨l1, rfl, hlc1, hcm1, hb1⟩ := deeds_of h1
  obtain ⟨x2, rfl, rfl, rfl, wx2⟩ := open_int Try.underlying3 (hval 2 3 v2 rfl rfl) h2
  have bx2 := Go.bounds_i64 wx2
  clear hA0
  refine (leaseOwns_walk x0 x2 a1 l1 _ cap1 rfl W hb1).mono fun e W' ⟨he, bel⟩ => ?_
  subst he
  exact ⟨_, rfl, _, _, _, [], _, [], hW', trodAll_mk1 (shut_bool Try.underlying4 _), (trodAll_cons_mk (shut_int Try.underlying3 wx0) (trodAll_cons_mk (Below.trod laidOut (by kernel_rfl) (of_decide_eq_true (by kernel_rfl)) k1 bel lt1) (trodAll_cons_mk (shut_int Try.underlying3 wx2) trodAll_mk0))), rfl, bel.frame _, fun h => by cases h⟩

set_option maxRecDepth 100000 in
theorem lifted (os : Os) (started : os.Started) (H : Type) (enc : TypeId × Value → H) :
    ReturnsInHanded {} Try.checked os 6 .any (Rows.leaseOwnsSpec.pre6 enc Try.prog Try.f6 Rows.leaseOwnsRow.domain false) (Rows.leaseOwnsSpec.post enc Try.prog Try.f6 false true false false) := by
  refine returnsInHanded_of_change (C := Try.checked) own started (by kernel_rfl) Try.func6
    (ChangeSpec.witness6 (enc := enc) (C := Try.checked) false ⟨#[], #[Value.int .i64 0, Value.slice none 0 0, Value.int .i64 0], []⟩ 8 (by kernel_rfl) (by kernel_rfl) (by kernel_rfl) (by kernel_rfl)) ?_
  intro W base args ds gs before hval hW _ _
  exact contract H enc W base args ds gs before hval hW

/-- THE STATEMENT. -/
theorem said : Rows.LeaseOwnsSaid :=
  OpenClaim.holds_of_wide 6 Try.f6 rfl rfl rfl rfl rfl rfl rfl ⟨rfl, rfl, rfl, rfl, rfl⟩ rfl rfl rfl rfl rfl (by kernel_rfl) Try.func6 (by kernel_rfl)
    (of_decide_eq_true (by kernel_rfl)) (by unfold Func.isWrapper; first | (rw [if_pos (by decide +kernel)]; kernel_rfl) | (rw [if_neg (by decide +kernel)]; exact ⟨rfl, rfl⟩))
    (fun os started H enc _ => lifted os started H enc)
end leaseOwns
end Go.Proofs.Ytkimhdcngagmaaa.Sh
