/- The laws of chains. ChainFinds: the proof of a pair, and its round, are just the document's. ChainSupports: the credentials of the proofs of some roles (the first 4) are just the document's. ChainComplete: there is a proof just of what is said, and it is one. ChainShort: a proof of a pair is as deep as its round says, and no proof of it is less deep. ChainAlone: by the credentials of its proof alone a pair is still said, and proved. Any credentials (the first 9, of ChainComplete 12), anybody, any role. Conditions: the package variables math/bits.deBruijn32tab, math/bits.deBruijn64tab, internal/strconv.uint64pow10 hold what the program's text lays (the card ties them; the walk reads none of them); no other. -/
import Derived.Test.YtoajckhnneagnaaDoorCards
import Derived.Test.YtoajckhnneagnaaDoorTie
import Derived.Test.YtoajckhnneagnaaDoorJd42
import Derived.Test.YtoajckhnneagnaaDoorJd44
import Derived.Test.YtoajckhnneagnaaDoorJd46
import Derived.Deep.Slices
import Derived.SizedLaws
import Derived.ChangeMaps5
import Derived.ChangeSame
import Derived.ProofKit
import Derived.OpenShut
import Derived.ChangeOld
import Derived.Deep.DeepHandedRow
import Derived.Lib.LaidTab
set_option linter.unusedVariables false
set_option linter.unusedSimpArgs false
namespace Go.Proofs.YtoajckhnneagnaaDoor.Sh
open Go Go.ChangeShapes Go.WideShapes Go.ChangeAt Go.RowKit
set_option maxRecDepth 100000

theorem own : ownKnob Tryd.prog.godebug = none := by kernel_rfl
theorem laidOut : laidOutB Tryd.prog = true := by kernel_rfl
noncomputable def laidWorld (os : Os) : World :=
  { World.holding Tryd.prog os ⟨#[], #[], []⟩ with heap := (((((World.holding Tryd.prog os ⟨#[], #[], []⟩).heap.modify 1 (fun | .cells _ t frozen => .cells #[.int .u8 0, .int .u8 1, .int .u8 28, .int .u8 2, .int .u8 29, .int .u8 14, .int .u8 24, .int .u8 3, .int .u8 30, .int .u8 22, .int .u8 20, .int .u8 15, .int .u8 25, .int .u8 17, .int .u8 4, .int .u8 8, .int .u8 31, .int .u8 27, .int .u8 13, .int .u8 23, .int .u8 21, .int .u8 19, .int .u8 16, .int .u8 7, .int .u8 26, .int .u8 12, .int .u8 18, .int .u8 6, .int .u8 11, .int .u8 5, .int .u8 10, .int .u8 9] t frozen | o => o)).modify 2 (fun | .cells _ t frozen => .cells #[.int .u8 0, .int .u8 1, .int .u8 56, .int .u8 2, .int .u8 57, .int .u8 49, .int .u8 28, .int .u8 3, .int .u8 61, .int .u8 58, .int .u8 42, .int .u8 50, .int .u8 38, .int .u8 29, .int .u8 17, .int .u8 4, .int .u8 62, .int .u8 47, .int .u8 59, .int .u8 36, .int .u8 45, .int .u8 43, .int .u8 51, .int .u8 22, .int .u8 53, .int .u8 39, .int .u8 33, .int .u8 30, .int .u8 24, .int .u8 18, .int .u8 12, .int .u8 5, .int .u8 63, .int .u8 55, .int .u8 48, .int .u8 27, .int .u8 60, .int .u8 41, .int .u8 37, .int .u8 16, .int .u8 46, .int .u8 35, .int .u8 44, .int .u8 21, .int .u8 52, .int .u8 32, .int .u8 23, .int .u8 11, .int .u8 54, .int .u8 26, .int .u8 40, .int .u8 15, .int .u8 34, .int .u8 20, .int .u8 31, .int .u8 10, .int .u8 25, .int .u8 14, .int .u8 19, .int .u8 9, .int .u8 13, .int .u8 8, .int .u8 7, .int .u8 6] t frozen | o => o)).modify 0 (fun | .cells _ t frozen => .cells #[.int .u64 1, .int .u64 10, .int .u64 100, .int .u64 1000, .int .u64 10000, .int .u64 100000, .int .u64 1000000, .int .u64 10000000, .int .u64 100000000, .int .u64 1000000000, .int .u64 10000000000, .int .u64 100000000000, .int .u64 1000000000000, .int .u64 10000000000000, .int .u64 100000000000000, .int .u64 1000000000000000, .int .u64 10000000000000000, .int .u64 100000000000000000, .int .u64 1000000000000000000, .int .u64 10000000000000000000] t frozen | o => o))) }


theorem cellsStr : Tryd.prog.cellsOf 9 = 1 := by kernel_rfl
theorem cellsInt : Tryd.prog.cellsOf 3 = 1 := by kernel_rfl
theorem cellsRole : Tryd.prog.cellsOf 24 = 2 := by kernel_rfl
theorem cellsId : Tryd.prog.cellsOf 27 = 2 := by kernel_rfl
theorem cellsCred : Tryd.prog.cellsOf 55 = 9 := by kernel_rfl
section
variable {P : Program} {w : World} {base : Nat} {spare : MemPlace → Bool} {held : Bool} {H : Type} {enc : TypeId × Value → H}
end
def datC {H : Type} (x : Crd) : DataW H := .agg [.agg [.lit (.int .i64 x.d), .lit (.int .i64 x.q)], .lit (.string x.nm.data.toList), .lit (.int .i64 x.kd), .lit (.string x.wh.data.toList), .agg [.lit (.string x.ao.data.toList), .lit (.string x.an.data.toList)], .agg [.lit (.string x.bo.data.toList), .lit (.string x.bn.data.toList)]]
theorem cred_cells {W : World} {H : Type} {enc : TypeId × Value → H} {fuel : Nat} {cs : List Value} {x : DataW H × List MemPlace} (hl : cs.length = 9)
    (h : DataW.trod enc Tryd.prog W 0 (fun _ => true) true fuel 55 cs = some x) :
    ∃ c : Crd, cs = c.cells ∧ x = (datC c, []) ∧ (-9223372036854775808 ≤ c.d ∧ c.d ≤ 9223372036854775807) := by
  obtain ⟨xs, n, _, rfl, _, hlen, hf⟩ := DataW.trod_struct Tryd.underlying55 h
  match xs, hlen with
  | [y0, y1, y2, y3, y4, y5], _ =>
    match cs, hl with
    | [c0, c1, c2, c3, c4, c5, c6, c7, c8], _ =>
      have h0 := hf 0 _ rfl
      have h1 := hf 1 _ rfl
      have h2 := hf 2 _ rfl
      have h3 := hf 3 _ rfl
      have h4 := hf 4 _ rfl
      have h5 := hf 5 _ rfl
      simp [cellsStr, cellsInt, cellsRole, cellsId] at h0 h1 h2 h3 h4 h5
      obtain ⟨a0, a1, m0, rfl, _, g0, g1⟩ := trod_struct2 Tryd.underlying27 h0
      obtain ⟨k0, e0, z0, wk0⟩ := DataW.trod_int Tryd.underlying3 g0
      obtain ⟨k1, e1, z1, wk1⟩ := DataW.trod_int Tryd.underlying3 g1
      obtain ⟨s2, e2, rfl, _⟩ := DataW.trod_string Tryd.underlying9 h1
      obtain ⟨k3, e3, rfl, _⟩ := DataW.trod_int Tryd.underlying3 h2
      obtain ⟨s4, e4, rfl, _⟩ := DataW.trod_string Tryd.underlying9 h3
      obtain ⟨b0, b1, m1, rfl, _, g2, g3⟩ := trod_struct2 Tryd.underlying24 h4
      obtain ⟨s5, e5, z5, _⟩ := DataW.trod_string Tryd.underlying9 g2
      obtain ⟨s6, e6, z6, _⟩ := DataW.trod_string Tryd.underlying9 g3
      obtain ⟨d0, d1, m2, rfl, _, g4, g5⟩ := trod_struct2 Tryd.underlying24 h5
      obtain ⟨s7, e7, z7, _⟩ := DataW.trod_string Tryd.underlying9 g4
      obtain ⟨s8, e8, z8, _⟩ := DataW.trod_string Tryd.underlying9 g5
      simp [cellsStr, cellsInt] at e0 e1 e2 e3 e4 e5 e6 e7 e8
      subst e0 e1 e2 e3 e4 e5 e6 e7 e8 z0 z1 z5 z6 z7 z8
      have bk := Go.bounds_i64 wk0
      exact ⟨⟨k0, k1, s2, k3, s4, s5, s6, s7, s8⟩, rfl, by simp [datC], bk.1, (by have := bk.2; show k0 ≤ 9223372036854775807; omega)⟩
theorem cv_at (Q : Nat → Crd) (n : Nat) : ∀ i u, (cv ((List.range n).map Q))[i]? = some u → i / 9 < n ∧ (Q (i / 9)).cells[i % 9]? = some u := fun i u hu => by
  have hi : i < (cv ((List.range n).map Q)).length := (List.getElem?_eq_some_iff.1 hu).1
  rw [cv_length, List.length_map, List.length_range] at hi
  have hd : i / 9 < n := by omega
  refine ⟨hd, ?_⟩
  have hg : ((List.range n).map Q)[i / 9]? = some (Q (i / 9)) := by rw [List.getElem?_map, List.getElem?_range hd]; rfl
  have := cv_get hg (k := i % 9) (by omega)
  rw [show i / 9 * 9 + i % 9 = i by omega] at this
  rw [← this]; exact hu
theorem crs_of {W : World} {a : Option Addr} {len cap : Nat} {H : Type} {enc : TypeId × Value → H} {p : List MemPlace} {d : DataW H}
    (h : DataW.Trod enc Tryd.prog W 0 (fun _ => true) true 22 (Value.slice a len cap) d p) :
    ∃ l : List Crd, l.length = len ∧ len ≤ cap ∧ cap ≤ 9223372036854775807 ∧ Crs W W.heap.size a l := by
  obtain ⟨fuel, hf⟩ := h
  rcases Go.Deep.open_slice Tryd.underlying22 hf with ⟨hcs, _⟩ | ⟨x, l, c, m, n, D, Pl, hcs, _, hl, hm, hmm, _, hi⟩
  · simp [Value.cells] at hcs
    obtain ⟨rfl, rfl, rfl⟩ := hcs
    exact ⟨[], rfl, Nat.le_refl _, by omega, Crs.nil⟩
  · simp [Value.cells] at hcs
    obtain ⟨rfl, rfl, rfl⟩ := hcs
    rw [if_pos rfl] at hmm
    have hone : ∀ i, i < len → ∃ q : Crd, ∀ k u, q.cells[k]? = some u → W.cell? ((x.add (i * 9)).add k) = some u := fun i hil => by
      obtain ⟨cs', hc, ht⟩ := hi i (by omega)
      rw [cellsCred] at hc
      obtain ⟨_, hcl, hat⟩ := World.cells?_some hc
      obtain ⟨q, rfl, _, _⟩ := cred_cells hcl ht
      refine ⟨q, fun k u hu => ?_⟩
      have hk : k < 9 := (List.getElem?_eq_some_iff.1 hu).1
      have g := hat k hk
      rw [g]
      simpa [List.getElem?_eq_some_iff] using hu
    obtain ⟨Q, hQ⟩ : ∃ Q : Nat → Crd, ∀ i, i < len → ∀ k u, (Q i).cells[k]? = some u → W.cell? ((x.add (i * 9)).add k) = some u := by
      classical
      exact ⟨fun i => if h : i < len then Classical.choose (hone i h) else .zero, fun i hi => by simp only [dif_pos hi]; exact Classical.choose_spec (hone i hi)⟩
    refine ⟨(List.range len).map Q, by simp, hl, by unfold maxLen at hm; exact hm, fun hpos => ?_⟩
    have h0 : 0 < len := by simpa using hpos
    refine ⟨x, rfl, ?_, fun i u hu => ?_⟩
    · have := World.block_lt_of_cell? W _ (hQ 0 h0 0 _ rfl)
      rwa [block_add, block_add] at this
    · obtain ⟨hd, hc⟩ := cv_at Q len i u hu
      have := hQ _ hd _ u hc
      rw [add_add, show i / 9 * 9 + i % 9 = i by omega] at this
      exact this
theorem role_of {W : World} {base : Nat} {v : Value} {H : Type} {enc : TypeId × Value → H} {p : List MemPlace} {d : DataW H} (hv : Value.okWide Tryd.prog W .any base 24 v)
    (h : DataW.Trod enc Tryd.prog W 0 (fun _ => true) true 24 v d p) :
    ∃ o n : ByteArray, v = .agg #[.string o, .string n] ∧ d = .agg [.lit (.string o.data.toList), .lit (.string n.data.toList)] ∧ p = [] ∧ o.size ≤ maxLen ∧ n.size ≤ maxLen := by
  obtain ⟨cs, rfl, hsz⟩ := okWide_struct Tryd.underlying24 hv
  rw [cellsRole] at hsz
  obtain ⟨l⟩ := cs
  match l, hsz with
  | [c0, c1], _ =>
    obtain ⟨fuel, hf⟩ := h
    obtain ⟨y0, y1, m, hx, _, h0, h1⟩ := trod_struct2 Tryd.underlying24 hf
    obtain ⟨o, e0, z0, wo⟩ := DataW.trod_string Tryd.underlying9 h0
    obtain ⟨n, e1, z1, wn⟩ := DataW.trod_string Tryd.underlying9 h1
    simp [Value.cells, cellsStr] at e0 e1
    subst e0 e1 z0 z1
    simp only [Prod.mk.injEq] at hx
    obtain ⟨rfl, rfl⟩ := hx
    exact ⟨o, n, rfl, rfl, rfl, wo, wn⟩

theorem cellsProof : Tryd.prog.cellsOf 30 = 6 := by kernel_rfl
theorem cellsPrs : Tryd.prog.cellsOf 28 = 1 := by kernel_rfl
theorem cellsIdP : Tryd.prog.cellsOf 27 = 2 := by kernel_rfl
theorem ev_atT (Q : Nat → PT) (n : Nat) : ∀ i u, (ev encT ((List.range n).map Q))[i]? = some u → i / 6 < n ∧ (PT.cells (Q (i / 6)))[i % 6]? = some u := fun i u hu => by
  have hi : i < (ev encT ((List.range n).map Q)).length := (List.getElem?_eq_some_iff.1 hu).1
  rw [ev_length, List.length_map, List.length_range] at hi
  have hk : encT.k = 6 := rfl
  rw [hk] at hi
  have hd : i / 6 < n := by omega
  refine ⟨hd, ?_⟩
  have hg : ((List.range n).map Q)[i / 6]? = some (Q (i / 6)) := by rw [List.getElem?_map, List.getElem?_range hd]; rfl
  have := ev_get encT hg (i := i % 6) (by rw [hk]; omega)
  rw [hk, show i / 6 * 6 + i % 6 = i by omega] at this
  exact this.symm.trans hu
theorem proof_cells {W : World} {H : Type} {enc : TypeId × Value → H} : ∀ (fuel : Nat) (cs : List Value) (x : DataW H × List MemPlace), cs.length = 6 →
    DataW.trod enc Tryd.prog W 0 (fun _ => true) true fuel 30 cs = some x → ∃ p : PT, cs = p.cells ∧ PIn W W.heap.size p ∧ okB p.o ∧ okB p.n ∧ okB p.x := by
  intro fuel
  induction fuel using Nat.strongRecOn with
  | ind fuel ih =>
  intro cs x hl h
  obtain ⟨xs, n, hfu, _, _, hlen, hf⟩ := DataW.trod_struct Tryd.underlying30 h
  match xs, hlen with
  | [y0, y1, y2, y3], _ =>
    match cs, hl with
    | [c0, c1, c2, c3, c4, c5], _ =>
      have h0 := hf 0 _ rfl
      have h1 := hf 1 _ rfl
      have h2 := hf 2 _ rfl
      have h3 := hf 3 _ rfl
      simp [cellsStr, cellsRole, cellsIdP, cellsPrs] at h0 h1 h2 h3
      obtain ⟨b0, b1, m1, rfl, _, g0, g1⟩ := trod_struct2 Tryd.underlying24 h0
      obtain ⟨o, e0, z0, so⟩ := DataW.trod_string Tryd.underlying9 g0
      obtain ⟨nm, e1, z1, sn⟩ := DataW.trod_string Tryd.underlying9 g1
      obtain ⟨wh, e2, z2, sw⟩ := DataW.trod_string Tryd.underlying9 h1
      obtain ⟨b3, b4, m2, rfl, _, g3, g4⟩ := trod_struct2 Tryd.underlying27 h2
      obtain ⟨d, e3, z3, w3⟩ := DataW.trod_int Tryd.underlying3 g3
      obtain ⟨q, e4, z4, w4⟩ := DataW.trod_int Tryd.underlying3 g4
      simp [cellsStr, cellsInt] at e0 e1 e2 e3 e4
      subst e0 e1 e2 e3 e4 z0 z1 z2 z3 z4
      have bd := Go.bounds_i64 w3
      have bq := Go.bounds_i64 w4
      have hok : okI (d, q) := ⟨⟨bd.1, (by have := bd.2; show d ≤ 9223372036854775807; omega)⟩, ⟨bq.1, (by have := bq.2; show q ≤ 9223372036854775807; omega)⟩⟩
      rcases DataW.trod_slice Tryd.underlying28 h3 with ⟨hcs, _⟩ | ⟨a, len, cap, elems, rest, n2, hn2, hcs, _, _, hle, hm, hlen2, hel, _, _⟩
      · simp at hcs
        subst hcs
        exact ⟨.mk o nm wh d q none 0 [], rfl, .mk hok (Nat.le_refl _) (by decide) Els.nil (fun p hp => by simp at hp), so, sn, sw⟩
      · simp at hcs
        subst hcs
        have hone : ∀ i, i < len → ∃ p : PT, PIn W W.heap.size p ∧ ∀ k u, (p.cells)[k]? = some u → W.cell? ((a.add (i * 6)).add k) = some u := fun i hil => by
          have hk := hel i hil
          rw [List.getElem?_eq_getElem (by omega)] at hk
          obtain ⟨cs', hc, ht⟩ := Option.bind_eq_some_iff.1 hk
          rw [cellsProof] at hc
          obtain ⟨_, hcl, hat⟩ := World.cells?_some hc
          obtain ⟨p, rfl, hp, -⟩ := ih n2 (by omega) cs' _ hcl ht
          refine ⟨p, hp, fun k u hu => ?_⟩
          have hk : k < 6 := by have := (List.getElem?_eq_some_iff.1 hu).1; omega
          have g := hat k hk
          rw [g]
          simpa [List.getElem?_eq_some_iff] using hu
        obtain ⟨Q, hQ⟩ : ∃ Q : Nat → PT, ∀ i, i < len → PIn W W.heap.size (Q i) ∧ ∀ k u, ((Q i).cells)[k]? = some u → W.cell? ((a.add (i * 6)).add k) = some u := by
          classical
          exact ⟨fun i => if h : i < len then Classical.choose (hone i h) else .mk ⟨#[]⟩ ⟨#[]⟩ ⟨#[]⟩ 0 0 none 0 [], fun i hi => by simp only [dif_pos hi]; exact Classical.choose_spec (hone i hi)⟩
        refine ⟨.mk o nm wh d q (some a) cap ((List.range len).map Q), by simp [PT.cells], .mk hok (by simpa using hle) (by unfold maxLen at hm; exact hm) (fun hpos => ?_) (fun p hp => ?_), so, sn, sw⟩
        · have hl0 : 0 < len := by simpa using hpos
          refine ⟨a, rfl, ?_, fun i u hu => ?_⟩
          · obtain ⟨v0, hv0⟩ : ∃ v0, (Q 0).cells[0]? = some v0 := by
              cases Q 0; exact ⟨_, rfl⟩
            have := World.block_lt_of_cell? W _ ((hQ 0 hl0).2 0 _ hv0)
            rwa [block_add, block_add] at this
          · obtain ⟨hd, hc⟩ := ev_atT Q len i u hu
            have := (hQ _ hd).2 _ u hc
            rw [add_add, show i / 6 * 6 + i % 6 = i by omega] at this
            exact this
        · obtain ⟨i, hi, rfl⟩ := List.mem_map.1 hp
          exact (hQ i (List.mem_range.1 hi)).1
theorem proof_of {W : World} {base : Nat} {v : Value} {H : Type} {enc : TypeId × Value → H} {p : List MemPlace} {d : DataW H} (hv : Value.okWide Tryd.prog W .any base 30 v)
    (h : DataW.Trod enc Tryd.prog W 0 (fun _ => true) true 30 v d p) :
    ∃ c : PT, v = .agg c.cells.toArray ∧ PIn W W.heap.size c ∧ okB c.o ∧ okB c.n ∧ okB c.x := by
  obtain ⟨cs, rfl, hsz⟩ := okWide_struct Tryd.underlying30 hv
  rw [cellsProof] at hsz
  obtain ⟨l⟩ := cs
  obtain ⟨fuel, hf⟩ := h
  have hf' : DataW.trod enc Tryd.prog W 0 (fun _ => true) true fuel 30 l = some (d, p) := hf
  obtain ⟨c, rfl, hc⟩ := proof_cells fuel l _ hsz hf'
  exact ⟨c, rfl, hc⟩


namespace chainComplete
theorem contract (H : Type) (enc : TypeId × Value → H) (W : World) (base : Nat) (args : Array Value) (ds gs : List (DataW H)) (before : List MemPlace)
    (hval : ∀ (j : Nat) t v, Tryd.f5.params[j]? = some t → args[j]? = some v → Value.okWide Tryd.prog W .any base t v)
    (hW : DataW.Whole enc Tryd.prog Tryd.f5.params.toList Rows.chainCompleteSpec.vars false W args.toList ds gs before) :
    Calls Tryd.prog 5 args W fun e W' => ∃ v, e = .returned v ∧ Rows.chainCompleteSpec.post enc Tryd.prog Tryd.f5 false true false false W args v W' := by
  have hW' := hW
  obtain ⟨p, q, hA0, hV, rfl, hfz, hnd⟩ := hW
  have hA : DataW.TrodAll enc Tryd.prog W 0 (fun _ => true) true Tryd.f5.params.toList args.toList ds p := hA0
  rw [Tryd.params5] at hA hval
  obtain ⟨v0, vs0, d0, ds0, p0, q0, hargs, rfl, rfl, h0, r0⟩ := trodAll_cons hA
  obtain ⟨v1, vs1, d1, ds1, p1, q1, rfl, rfl, rfl, h1, r1⟩ := trodAll_cons r0
  obtain ⟨v2, vs2, d2, ds2, p2, q2, rfl, rfl, rfl, h2, r2⟩ := trodAll_cons r1
  obtain ⟨rfl, rfl, rfl⟩ := trodAll_nil r2
  obtain rfl : args = #[v0, v1, v2] := by cases args; simp_all
  obtain ⟨rfl, rfl⟩ := trodVars_none hV
  obtain ⟨a0, len0, cap0, rfl⟩ := okWide_slice Tryd.underlying22 (hval 0 22 v0 rfl rfl)
  have k0 := h0
  have lt0 : ∀ x ∈ p0, x.block < W.heap.size := by obtain ⟨m, hm⟩ := k0; exact DataW.trod_lt m _ _ _ hm
  obtain ⟨l0, rfl, hlc0, hcm0, hb0⟩ := crs_of h0
  obtain ⟨s1, rfl, rfl, rfl, ws1⟩ := Go.ChangeMaps.open_string Tryd.underlying9 (hval 1 9 v1 rfl rfl) h1
  have k2 := h2
  have lt2 : ∀ x ∈ p2, x.block < W.heap.size := by obtain ⟨m, hm⟩ := k2; exact DataW.trod_lt m _ _ _ hm
  obtain ⟨o2, n2, rfl, rfl, rfl, wo2, wn2⟩ := role_of (hval 2 24 v2 rfl rfl) h2
  clear hA0
  refine (chainComplete_walk lives8_any a0 l0 _ cap0 rfl hlc0 hcm0 s1 o2 n2 ws1 wo2 wn2 W hb0).mono fun e W' ⟨he, bel⟩ => ?_
  subst he
  exact ⟨_, rfl, _, _, _, [], _, [], hW', trodAll_mk1 (shut_bool Tryd.underlying4 _), (trodAll_cons_mk (Below.trod laidOut (by kernel_rfl) (of_decide_eq_true (by kernel_rfl)) k0 bel lt0) (trodAll_cons_mk (Go.ChangeMaps.shut_string Tryd.underlying9 ws1) (trodAll_cons_mk (Below.trod laidOut (by kernel_rfl) (of_decide_eq_true (by kernel_rfl)) k2 bel lt2) trodAll_mk0))), rfl, bel.frame _, fun h => by cases h⟩

set_option maxRecDepth 100000 in
theorem laid_met (os : Os) : laidMet Tryd.prog Rows.chainCompleteRow.laid ((laidWorld os).forCall (fun _ _ => 0) ⟨#[], #[Value.slice none 0 0, Value.string ⟨#[]⟩, Value.agg #[.string ⟨#[]⟩, .string ⟨#[]⟩]], []⟩).memory :=
  laidMet_of_run' 8 (by kernel_rfl) (by kernel_rfl)
theorem reads (os : Os) {H : Type} (enc : TypeId × Value → H) : ∃ places, DataW.whole enc Tryd.prog ((laidWorld os).forCall (fun _ _ => 0) ⟨#[], #[Value.slice none 0 0, Value.string ⟨#[]⟩, Value.agg #[.string ⟨#[]⟩, .string ⟨#[]⟩]], []⟩).memory Tryd.f5.params.toList Rows.chainCompleteSpec.vars false (#[Value.slice none 0 0, Value.string ⟨#[]⟩, Value.agg #[.string ⟨#[]⟩, .string ⟨#[]⟩]] : Array Value).toList 8 = some ([.nil, .lit (.string []), .agg [.lit (.string []), .lit (.string [])]], [], places) :=
  ⟨[], by kernel_rfl⟩

set_option maxRecDepth 100000 in
theorem lifted (os : Os) (started : os.Started) (H : Type) (enc : TypeId × Value → H) (F : Stop.Interp) :
    ReturnsInHanded {} Tryd.checked os 5 .any ((OpenSpec.ofChange Rows.chainCompleteSpec).preRow enc Tryd.prog Tryd.f5 Rows.chainCompleteRow.domain false Rows.chainCompleteRow.laid) (((OpenSpec.ofChange Rows.chainCompleteSpec).at F).post enc Tryd.prog Tryd.f5 false true false false) := by
  obtain ⟨places, hx⟩ := reads os enc
  refine returnsInHanded_of_row (C := Tryd.checked) (s := OpenSpec.ofChange Rows.chainCompleteSpec) own started (by kernel_rfl) Tryd.func5
    (witness_row_at (enc := enc) (C := Tryd.checked) false (laidWorld os) #[Value.slice none 0 0, Value.string ⟨#[]⟩, Value.agg #[.string ⟨#[]⟩, .string ⟨#[]⟩]] rfl (by kernel_rfl) (by kernel_rfl) (by kernel_rfl)
      (OpenSpec.preRow_of_cond 8 hx (by kernel_rfl) (fun k hk => by cases hk) (by kernel_rfl) (laid_met os))) ?_
  intro W base args ds gs before hval hW _ _ _ _ _ _
  exact contract H enc W base args ds gs before hval hW

theorem said : Rows.ChainCompleteSaid :=
  OpenClaim.holds_of_cond 5 Tryd.f5 rfl rfl rfl rfl rfl rfl rfl ⟨rfl, rfl, rfl, rfl, rfl⟩ rfl rfl rfl rfl rfl (by kernel_rfl) Tryd.func5 (by kernel_rfl)
    (of_decide_eq_true (by kernel_rfl)) (by unfold Func.isWrapper; first | (rw [if_pos (by decide +kernel)]; kernel_rfl) | (rw [if_neg (by decide +kernel)]; exact ⟨rfl, rfl⟩))
    (fun os started H enc _ F => by rw [OpenClaim.pre_eq_preRow]; exact lifted os started H enc F)

theorem plain (f : FuncId) (fn : Func) (hf : Tryd.pinned.checked.prog.funcNamed "livery/liverylaw08.ChainComplete" = some f) (hfn : Tryd.pinned.checked.prog.funcs[f]? = some fn) :
    false = Tryd.pinned.checked.prog.looks [] ∧ ∀ (j : Nat) t, fn.params[j]? = some t → Tryd.pinned.checked.prog.wantsStandIn t = false := by
  obtain rfl : f = 5 := Option.some.inj ((show Tryd.prog.funcNamed "livery/liverylaw08.ChainComplete" = some 5 by kernel_rfl).symm.trans hf) |>.symm
  obtain rfl : fn = Tryd.f5 := (Option.some.inj (Tryd.func5.symm.trans hfn)).symm
  refine ⟨by kernel_rfl, fun j t ht => ?_⟩
  rw [Tryd.params5] at ht
  have hmem := Array.mem_of_getElem? ht
  simp at hmem
  rcases hmem with rfl | rfl | rfl
  · exact (show Tryd.prog.wantsStandIn 22 = false by kernel_rfl)
  · exact (show Tryd.prog.wantsStandIn 9 = false by kernel_rfl)
  · exact (show Tryd.prog.wantsStandIn 24 = false by kernel_rfl)

theorem card : Rows.ChainCompleteCardSaid :=
  Claim7.holds_tied_plain_at .later [] _ _ _ _ said (fun _ h => by cases h) (by kernel_rfl) (fun _ h => by cases h) chainComplete_row_tie rfl ⟨rfl, rfl⟩ (by kernel_rfl) rfl plain (by kernel_rfl)
end chainComplete

namespace chainShort
theorem contract (H : Type) (enc : TypeId × Value → H) (W : World) (base : Nat) (args : Array Value) (ds gs : List (DataW H)) (before : List MemPlace)
    (hval : ∀ (j : Nat) t v, Tryd.f6.params[j]? = some t → args[j]? = some v → Value.okWide Tryd.prog W .any base t v)
    (hW : DataW.Whole enc Tryd.prog Tryd.f6.params.toList Rows.chainShortSpec.vars false W args.toList ds gs before) :
    Calls Tryd.prog 6 args W fun e W' => ∃ v, e = .returned v ∧ Rows.chainShortSpec.post enc Tryd.prog Tryd.f6 false true false false W args v W' := by
  have hW' := hW
  obtain ⟨p, q, hA0, hV, rfl, hfz, hnd⟩ := hW
  have hA : DataW.TrodAll enc Tryd.prog W 0 (fun _ => true) true Tryd.f6.params.toList args.toList ds p := hA0
  rw [Tryd.params6] at hA hval
  obtain ⟨v0, vs0, d0, ds0, p0, q0, hargs, rfl, rfl, h0, r0⟩ := trodAll_cons hA
  obtain ⟨v1, vs1, d1, ds1, p1, q1, rfl, rfl, rfl, h1, r1⟩ := trodAll_cons r0
  obtain ⟨rfl, rfl, rfl⟩ := trodAll_nil r1
  obtain rfl : args = #[v0, v1] := by cases args; simp_all
  obtain ⟨rfl, rfl⟩ := trodVars_none hV
  obtain ⟨a0, len0, cap0, rfl⟩ := okWide_slice Tryd.underlying22 (hval 0 22 v0 rfl rfl)
  have k0 := h0
  have lt0 : ∀ x ∈ p0, x.block < W.heap.size := by obtain ⟨m, hm⟩ := k0; exact DataW.trod_lt m _ _ _ hm
  obtain ⟨l0, rfl, hlc0, hcm0, hb0⟩ := crs_of h0
  have k1 := h1
  have lt1 : ∀ x ∈ p1, x.block < W.heap.size := by obtain ⟨m, hm⟩ := k1; exact DataW.trod_lt m _ _ _ hm
  obtain ⟨P1, rfl, hp1, hpo1, hpn1, hpx1⟩ := proof_of (hval 1 30 v1 rfl rfl) h1
  clear hA0
  refine (chainShort_walk a0 l0 _ cap0 rfl hlc0 hcm0 P1 hpo1 hpn1 hpx1 W hb0 hp1).mono fun e W' ⟨he, bel⟩ => ?_
  subst he
  exact ⟨_, rfl, _, _, _, [], _, [], hW', trodAll_mk1 (shut_bool Tryd.underlying4 _), (trodAll_cons_mk (Below.trod laidOut (by kernel_rfl) (of_decide_eq_true (by kernel_rfl)) k0 bel lt0) (trodAll_cons_mk (Below.trod laidOut (by kernel_rfl) (of_decide_eq_true (by kernel_rfl)) k1 bel lt1) trodAll_mk0)), rfl, bel.frame _, fun h => by cases h⟩

set_option maxRecDepth 100000 in
theorem laid_met (os : Os) : laidMet Tryd.prog Rows.chainShortRow.laid ((laidWorld os).forCall (fun _ _ => 0) ⟨#[], #[Value.slice none 0 0, Value.agg #[.string ⟨#[]⟩, .string ⟨#[]⟩, .string ⟨#[]⟩, .int .i64 0, .int .i64 0, .slice none 0 0]], []⟩).memory :=
  laidMet_of_run' 8 (by kernel_rfl) (by kernel_rfl)
theorem reads (os : Os) {H : Type} (enc : TypeId × Value → H) : ∃ places, DataW.whole enc Tryd.prog ((laidWorld os).forCall (fun _ _ => 0) ⟨#[], #[Value.slice none 0 0, Value.agg #[.string ⟨#[]⟩, .string ⟨#[]⟩, .string ⟨#[]⟩, .int .i64 0, .int .i64 0, .slice none 0 0]], []⟩).memory Tryd.f6.params.toList Rows.chainShortSpec.vars false (#[Value.slice none 0 0, Value.agg #[.string ⟨#[]⟩, .string ⟨#[]⟩, .string ⟨#[]⟩, .int .i64 0, .int .i64 0, .slice none 0 0]] : Array Value).toList 8 = some ([.nil, .agg [.agg [.lit (.string []), .lit (.string [])], .lit (.string []), .agg [.lit (.int .i64 0), .lit (.int .i64 0)], .nil]], [], places) :=
  ⟨[], by kernel_rfl⟩

set_option maxRecDepth 100000 in
theorem lifted (os : Os) (started : os.Started) (H : Type) (enc : TypeId × Value → H) (F : Stop.Interp) :
    ReturnsInHanded {} Tryd.checked os 6 .any ((OpenSpec.ofChange Rows.chainShortSpec).preRow enc Tryd.prog Tryd.f6 Rows.chainShortRow.domain false Rows.chainShortRow.laid) (((OpenSpec.ofChange Rows.chainShortSpec).at F).post enc Tryd.prog Tryd.f6 false true false false) := by
  obtain ⟨places, hx⟩ := reads os enc
  refine returnsInHanded_of_row (C := Tryd.checked) (s := OpenSpec.ofChange Rows.chainShortSpec) own started (by kernel_rfl) Tryd.func6
    (witness_row_at (enc := enc) (C := Tryd.checked) false (laidWorld os) #[Value.slice none 0 0, Value.agg #[.string ⟨#[]⟩, .string ⟨#[]⟩, .string ⟨#[]⟩, .int .i64 0, .int .i64 0, .slice none 0 0]] rfl (by kernel_rfl) (by kernel_rfl) (by kernel_rfl)
      (OpenSpec.preRow_of_cond 8 hx (by kernel_rfl) (fun k hk => by cases hk) (by kernel_rfl) (laid_met os))) ?_
  intro W base args ds gs before hval hW _ _ _ _ _ _
  exact contract H enc W base args ds gs before hval hW

theorem said : Rows.ChainShortSaid :=
  OpenClaim.holds_of_cond 6 Tryd.f6 rfl rfl rfl rfl rfl rfl rfl ⟨rfl, rfl, rfl, rfl, rfl⟩ rfl rfl rfl rfl rfl (by kernel_rfl) Tryd.func6 (by kernel_rfl)
    (of_decide_eq_true (by kernel_rfl)) (by unfold Func.isWrapper; first | (rw [if_pos (by decide +kernel)]; kernel_rfl) | (rw [if_neg (by decide +kernel)]; exact ⟨rfl, rfl⟩))
    (fun os started H enc _ F => by rw [OpenClaim.pre_eq_preRow]; exact lifted os started H enc F)

theorem plain (f : FuncId) (fn : Func) (hf : Tryd.pinned.checked.prog.funcNamed "livery/liverylaw08.ChainShort" = some f) (hfn : Tryd.pinned.checked.prog.funcs[f]? = some fn) :
    false = Tryd.pinned.checked.prog.looks [] ∧ ∀ (j : Nat) t, fn.params[j]? = some t → Tryd.pinned.checked.prog.wantsStandIn t = false := by
  obtain rfl : f = 6 := Option.some.inj ((show Tryd.prog.funcNamed "livery/liverylaw08.ChainShort" = some 6 by kernel_rfl).symm.trans hf) |>.symm
  obtain rfl : fn = Tryd.f6 := (Option.some.inj (Tryd.func6.symm.trans hfn)).symm
  refine ⟨by kernel_rfl, fun j t ht => ?_⟩
  rw [Tryd.params6] at ht
  have hmem := Array.mem_of_getElem? ht
  simp at hmem
  rcases hmem with rfl | rfl
  · exact (show Tryd.prog.wantsStandIn 22 = false by kernel_rfl)
  · exact (show Tryd.prog.wantsStandIn 30 = false by kernel_rfl)

theorem card : Rows.ChainShortCardSaid :=
  Claim7.holds_tied_plain_at .later [] _ _ _ _ said (fun _ h => by cases h) (by kernel_rfl) (fun _ h => by cases h) chainShort_row_tie rfl ⟨rfl, rfl⟩ (by kernel_rfl) rfl plain (by kernel_rfl)
end chainShort

namespace chainAlone
theorem contract (H : Type) (enc : TypeId × Value → H) (W : World) (base : Nat) (args : Array Value) (ds gs : List (DataW H)) (before : List MemPlace)
    (hval : ∀ (j : Nat) t v, Tryd.f7.params[j]? = some t → args[j]? = some v → Value.okWide Tryd.prog W .any base t v)
    (hW : DataW.Whole enc Tryd.prog Tryd.f7.params.toList Rows.chainAloneSpec.vars false W args.toList ds gs before) :
    Calls Tryd.prog 7 args W fun e W' => ∃ v, e = .returned v ∧ Rows.chainAloneSpec.post enc Tryd.prog Tryd.f7 false true false false W args v W' := by
  have hW' := hW
  obtain ⟨p, q, hA0, hV, rfl, hfz, hnd⟩ := hW
  have hA : DataW.TrodAll enc Tryd.prog W 0 (fun _ => true) true Tryd.f7.params.toList args.toList ds p := hA0
  rw [Tryd.params7] at hA hval
  obtain ⟨v0, vs0, d0, ds0, p0, q0, hargs, rfl, rfl, h0, r0⟩ := trodAll_cons hA
  obtain ⟨v1, vs1, d1, ds1, p1, q1, rfl, rfl, rfl, h1, r1⟩ := trodAll_cons r0
  obtain ⟨v2, vs2, d2, ds2, p2, q2, rfl, rfl, rfl, h2, r2⟩ := trodAll_cons r1
  obtain ⟨rfl, rfl, rfl⟩ := trodAll_nil r2
  obtain rfl : args = #[v0, v1, v2] := by cases args; simp_all
  obtain ⟨rfl, rfl⟩ := trodVars_none hV
  obtain ⟨a0, len0, cap0, rfl⟩ := okWide_slice Tryd.underlying22 (hval 0 22 v0 rfl rfl)
  have k0 := h0
  have lt0 : ∀ x ∈ p0, x.block < W.heap.size := by obtain ⟨m, hm⟩ := k0; exact DataW.trod_lt m _ _ _ hm
  obtain ⟨l0, rfl, hlc0, hcm0, hb0⟩ := crs_of h0
  obtain ⟨s1, rfl, rfl, rfl, ws1⟩ := Go.ChangeMaps.open_string Tryd.underlying9 (hval 1 9 v1 rfl rfl) h1
  have k2 := h2
  have lt2 : ∀ x ∈ p2, x.block < W.heap.size := by obtain ⟨m, hm⟩ := k2; exact DataW.trod_lt m _ _ _ hm
  obtain ⟨o2, n2, rfl, rfl, rfl, wo2, wn2⟩ := role_of (hval 2 24 v2 rfl rfl) h2
  clear hA0
  refine (chainAlone_walk a0 l0 _ cap0 rfl hlc0 hcm0 s1 o2 n2 ws1 wo2 wn2 W hb0).mono fun e W' ⟨he, bel⟩ => ?_
  subst he
  exact ⟨_, rfl, _, _, _, [], _, [], hW', trodAll_mk1 (shut_bool Tryd.underlying4 _), (trodAll_cons_mk (Below.trod laidOut (by kernel_rfl) (of_decide_eq_true (by kernel_rfl)) k0 bel lt0) (trodAll_cons_mk (Go.ChangeMaps.shut_string Tryd.underlying9 ws1) (trodAll_cons_mk (Below.trod laidOut (by kernel_rfl) (of_decide_eq_true (by kernel_rfl)) k2 bel lt2) trodAll_mk0))), rfl, bel.frame _, fun h => by cases h⟩

set_option maxRecDepth 100000 in
theorem laid_met (os : Os) : laidMet Tryd.prog Rows.chainAloneRow.laid ((laidWorld os).forCall (fun _ _ => 0) ⟨#[], #[Value.slice none 0 0, Value.string ⟨#[]⟩, Value.agg #[.string ⟨#[]⟩, .string ⟨#[]⟩]], []⟩).memory :=
  laidMet_of_run' 8 (by kernel_rfl) (by kernel_rfl)
theorem reads (os : Os) {H : Type} (enc : TypeId × Value → H) : ∃ places, DataW.whole enc Tryd.prog ((laidWorld os).forCall (fun _ _ => 0) ⟨#[], #[Value.slice none 0 0, Value.string ⟨#[]⟩, Value.agg #[.string ⟨#[]⟩, .string ⟨#[]⟩]], []⟩).memory Tryd.f7.params.toList Rows.chainAloneSpec.vars false (#[Value.slice none 0 0, Value.string ⟨#[]⟩, Value.agg #[.string ⟨#[]⟩, .string ⟨#[]⟩]] : Array Value).toList 8 = some ([.nil, .lit (.string []), .agg [.lit (.string []), .lit (.string [])]], [], places) :=
  ⟨[], by kernel_rfl⟩

set_option maxRecDepth 100000 in
theorem lifted (os : Os) (started : os.Started) (H : Type) (enc : TypeId × Value → H) (F : Stop.Interp) :
    ReturnsInHanded {} Tryd.checked os 7 .any ((OpenSpec.ofChange Rows.chainAloneSpec).preRow enc Tryd.prog Tryd.f7 Rows.chainAloneRow.domain false Rows.chainAloneRow.laid) (((OpenSpec.ofChange Rows.chainAloneSpec).at F).post enc Tryd.prog Tryd.f7 false true false false) := by
  obtain ⟨places, hx⟩ := reads os enc
  refine returnsInHanded_of_row (C := Tryd.checked) (s := OpenSpec.ofChange Rows.chainAloneSpec) own started (by kernel_rfl) Tryd.func7
    (witness_row_at (enc := enc) (C := Tryd.checked) false (laidWorld os) #[Value.slice none 0 0, Value.string ⟨#[]⟩, Value.agg #[.string ⟨#[]⟩, .string ⟨#[]⟩]] rfl (by kernel_rfl) (by kernel_rfl) (by kernel_rfl)
      (OpenSpec.preRow_of_cond 8 hx (by kernel_rfl) (fun k hk => by cases hk) (by kernel_rfl) (laid_met os))) ?_
  intro W base args ds gs before hval hW _ _ _ _ _ _
  exact contract H enc W base args ds gs before hval hW

theorem said : Rows.ChainAloneSaid :=
  OpenClaim.holds_of_cond 7 Tryd.f7 rfl rfl rfl rfl rfl rfl rfl ⟨rfl, rfl, rfl, rfl, rfl⟩ rfl rfl rfl rfl rfl (by kernel_rfl) Tryd.func7 (by kernel_rfl)
    (of_decide_eq_true (by kernel_rfl)) (by unfold Func.isWrapper; first | (rw [if_pos (by decide +kernel)]; kernel_rfl) | (rw [if_neg (by decide +kernel)]; exact ⟨rfl, rfl⟩))
    (fun os started H enc _ F => by rw [OpenClaim.pre_eq_preRow]; exact lifted os started H enc F)

theorem plain (f : FuncId) (fn : Func) (hf : Tryd.pinned.checked.prog.funcNamed "livery/liverylaw08.ChainAlone" = some f) (hfn : Tryd.pinned.checked.prog.funcs[f]? = some fn) :
    false = Tryd.pinned.checked.prog.looks [] ∧ ∀ (j : Nat) t, fn.params[j]? = some t → Tryd.pinned.checked.prog.wantsStandIn t = false := by
  obtain rfl : f = 7 := Option.some.inj ((show Tryd.prog.funcNamed "livery/liverylaw08.ChainAlone" = some 7 by kernel_rfl).symm.trans hf) |>.symm
  obtain rfl : fn = Tryd.f7 := (Option.some.inj (Tryd.func7.symm.trans hfn)).symm
  refine ⟨by kernel_rfl, fun j t ht => ?_⟩
  rw [Tryd.params7] at ht
  have hmem := Array.mem_of_getElem? ht
  simp at hmem
  rcases hmem with rfl | rfl | rfl
  · exact (show Tryd.prog.wantsStandIn 22 = false by kernel_rfl)
  · exact (show Tryd.prog.wantsStandIn 9 = false by kernel_rfl)
  · exact (show Tryd.prog.wantsStandIn 24 = false by kernel_rfl)

theorem card : Rows.ChainAloneCardSaid :=
  Claim7.holds_tied_plain_at .later [] _ _ _ _ said (fun _ h => by cases h) (by kernel_rfl) (fun _ h => by cases h) chainAlone_row_tie rfl ⟨rfl, rfl⟩ (by kernel_rfl) rfl plain (by kernel_rfl)
end chainAlone
end Go.Proofs.YtoajckhnneagnaaDoor.Sh
