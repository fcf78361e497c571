/- Layer 12. TokenMints: which tokens may be, and how one is made, is told as the document's own May and Mint tell it, to the last byte of its tag. TokenVerifies: whether a token is right is told as the document's own Verify tells it. TokenRight: what was minted by a key, and narrowed as often as may be, is verified by it. TokenNarrow: what is narrowed has no other roles and no later end than it had, and allows nothing that was not allowed. TokenOwns: what is handed in stays, and what is told is new. In each the document's example holds. Conditions: the package variable roundWords holds what the program's text lays (the card ties it); no other. -/
import Derived.Test.YtaadmgbmaekicaaGreatDoorCards
import Derived.Test.YtaadmgbmaekicaaGreatDoorTie
import Derived.Test.YtaadmgbmaekicaaGreatDoorJm45
import Derived.Test.YtaadmgbmaekicaaGreatDoorJm46
import Derived.Deep.Slices
import Derived.Deep.Strs
import Derived.ChangeMaps5
import Derived.ProofKit
import Derived.OpenShut
import Derived.ChangeOld
import Derived.Deep.DeepHandedRow
import Derived.Lib.LaidTab
set_option linter.unusedVariables false
set_option linter.unusedSimpArgs false
namespace Go.Proofs.YtaadmgbmaekicaaGreatDoor.Sh
open Go Go.ChangeShapes Go.WideShapes Go.ChangeAt Go.RowKit
set_option maxRecDepth 100000
set_option linter.unusedSimpArgs false
set_option linter.unusedVariables false

theorem own : ownKnob Tryz.prog.godebug = none := by kernel_rfl
theorem laidOut : laidOutB Tryz.prog = true := by kernel_rfl
theorem gTab : Tryz.prog.globalNamed "livery/sha.roundWords" = some 0 := by kernel_rfl
theorem gTabType : (Tryz.prog.globals[0]?).map (·.type) = some 133 := by kernel_rfl
theorem cellsArr : Tryz.prog.cellsOf 133 = 64 := by kernel_rfl
theorem cellsU32 : Tryz.prog.cellsOf 119 = 1 := by kernel_rfl
theorem cellsU8 : Tryz.prog.cellsOf 5 = 1 := by kernel_rfl
def kInts : List Int := kWords.map fun x => (x.toNat : Int)

/-- The table's cells, out of the row's list. -/
theorem tab_of {W : World} (h : laidMetH Tryz.prog [("livery/sha.roundWords", Rows.laid_livery_sha_roundWords)] W) : Tab W := by
  have ht : Lib.TabIs Tryz.prog W "livery/sha.roundWords" .u32 kInts := Lib.tabIs_of_head (rest := []) gTab gTabType Tryz.underlying133 Tryz.underlying119 cellsU32 cellsArr h
  intro t hlt
  have hl : kInts.length = 64 := by decide +kernel
  have hk : kWords.length = 64 := by decide +kernel
  rw [ht.cell gTab t (by omega)]
  congr 2
  simp only [kInts, List.getD_eq_getElem?_getD, List.getElem?_map]
  rw [List.getElem?_eq_getElem (by omega)]
  rfl

/-- WHAT THE WALK IS TOLD OF A SLICE OF BYTES THAT CAME IN. -/
theorem bytes_of {W : World} {a : Option Addr} {len cap : Nat} {H : Type} {enc : TypeId × Value → H} {p : List MemPlace} {d : DataW H}
    (h : DataW.Trod enc Tryz.prog W 0 (fun _ => true) true 22 (Value.slice a len cap) d p) :
    ∃ l : List UInt8, l.length = len ∧ len ≤ cap ∧ cap ≤ 9223372036854775807 ∧ Byt W W.heap.size a l := by
  obtain ⟨fuel, hf⟩ := h
  rcases open_ints Tryz.underlying22 Tryz.underlying5 cellsU8 hf with ⟨hcs, _⟩ | ⟨x, l, c, zs, hcs, _, hl, hm, hz, _, hcell, hwz⟩
  · simp [Value.cells] at hcs
    obtain ⟨rfl, rfl, rfl⟩ := hcs
    exact ⟨[], rfl, Nat.le_refl _, by omega, Byt.nil⟩
  · simp [Value.cells] at hcs
    obtain ⟨rfl, rfl, rfl⟩ := hcs
    have hzl : zs.length = cap := by simpa using hz
    refine ⟨(zs.take len).map fun z => UInt8.ofNat z.toNat, by simp; omega, hl, by unfold maxLen at hm; exact hm, fun hpos => ?_⟩
    have h0 : 0 < len := by simp at hpos; omega
    have hc0 := hcell 0 (by omega)
    refine ⟨x, rfl, ?_, fun j y hy => ?_⟩
    · have := World.block_lt_of_cell? W _ hc0
      rwa [block_add] at this
    · simp only [List.getElem?_map, Option.map_eq_some_iff] at hy
      obtain ⟨z, hz1, rfl⟩ := hy
      have hj : j < len := by
        have := (List.getElem?_eq_some_iff.1 hz1).1
        simp at this; omega
      rw [List.getElem?_take, if_pos hj] at hz1
      have hw := hwz z (List.mem_of_getElem? hz1)
      have hb : 0 ≤ z ∧ z ≤ 255 := Go.bounds_u8 hw
      rw [hcell j (by omega), List.getD_eq_getElem?_getD, hz1, UInt8.toNat_ofNat', Nat.mod_eq_of_lt (by omega)]
      simp
      omega

/-- A world for the witness: the settled one, the table (block 0) holding what its initialiser lays. -/
noncomputable def laidWorld (os : Os) : World :=
  { World.holding Tryz.prog os ⟨#[], #[], []⟩ with heap := (World.holding Tryz.prog os ⟨#[], #[], []⟩).heap.modify 0 fun
      | .cells _ t frozen => .cells #[.int .u32 1116352408, .int .u32 1899447441, .int .u32 3049323471, .int .u32 3921009573, .int .u32 961987163, .int .u32 1508970993, .int .u32 2453635748, .int .u32 2870763221, .int .u32 3624381080, .int .u32 310598401, .int .u32 607225278, .int .u32 1426881987, .int .u32 1925078388, .int .u32 2162078206, .int .u32 2614888103, .int .u32 3248222580, .int .u32 3835390401, .int .u32 4022224774, .int .u32 264347078, .int .u32 604807628, .int .u32 770255983, .int .u32 1249150122, .int .u32 1555081692, .int .u32 1996064986, .int .u32 2554220882, .int .u32 2821834349, .int .u32 2952996808, .int .u32 3210313671, .int .u32 3336571891, .int .u32 3584528711, .int .u32 113926993, .int .u32 338241895, .int .u32 666307205, .int .u32 773529912, .int .u32 1294757372, .int .u32 1396182291, .int .u32 1695183700, .int .u32 1986661051, .int .u32 2177026350, .int .u32 2456956037, .int .u32 2730485921, .int .u32 2820302411, .int .u32 3259730800, .int .u32 3345764771, .int .u32 3516065817, .int .u32 3600352804, .int .u32 4094571909, .int .u32 275423344, .int .u32 430227734, .int .u32 506948616, .int .u32 659060556, .int .u32 883997877, .int .u32 958139571, .int .u32 1322822218, .int .u32 1537002063, .int .u32 1747873779, .int .u32 1955562222, .int .u32 2024104815, .int .u32 2227730452, .int .u32 2361852424, .int .u32 2428436474, .int .u32 2756734187, .int .u32 3204031479, .int .u32 3329325298] t frozen
      | o => o }

theorem byte_of {n : Int} (h : (Lit.int .u8 n).wf = true) : ∃ y : UInt8, n = (y.toNat : Int) := by
  have hb := Go.bounds_u8 h
  exact ⟨UInt8.ofNat n.toNat, by rw [UInt8.toNat_ofNat', Nat.mod_eq_of_lt (by omega)]; omega⟩

theorem cellsStr : Tryz.prog.cellsOf 9 = 1 := by kernel_rfl
theorem cellsInt : Tryz.prog.cellsOf 3 = 1 := by kernel_rfl
theorem cellsRole : Tryz.prog.cellsOf 69 = 2 := by kernel_rfl
theorem cellsId : Tryz.prog.cellsOf 65 = 2 := by kernel_rfl
theorem cellsCav : Tryz.prog.cellsOf 51 = 4 := by kernel_rfl
theorem cellsTok : Tryz.prog.cellsOf 27 = 9 := by kernel_rfl
theorem cellsRoles : Tryz.prog.cellsOf 23 = 1 := by kernel_rfl
theorem cellsIds : Tryz.prog.cellsOf 24 = 1 := by kernel_rfl
theorem cellsCavs : Tryz.prog.cellsOf 25 = 1 := by kernel_rfl
theorem cellsBytes : Tryz.prog.cellsOf 22 = 1 := by kernel_rfl
section
variable {W : World} {H : Type} {enc : TypeId × Value → H}
theorem elsQ_of {α : Type} {E : Enc α} {w : World} {A : Option Addr} {l : List α} (h : Els E w w.heap.size A l) : ElsQ E w (fun b => b < w.heap.size) A l := fun hn => by
  obtain ⟨ad, e, hb, hc⟩ := h hn
  exact ⟨ad, e, hb, hb, hc⟩
/-- A slice that came in, by its cell: its elements, each read. -/
theorem slice_cell {α : Type} {E : Enc α} {S T : TypeId} (hS : Tryz.prog.underlying S = some (.slice T)) (hk : Tryz.prog.cellsOf T = E.k) (R : α → Prop)
    (one : ∀ {n : Nat} {cs : List Value} {y : DataW H × List MemPlace}, cs.length = E.k → DataW.trod enc Tryz.prog W 0 (fun _ => true) true n T cs = some y → ∃ x, cs = E.cells x ∧ R x)
    {n : Nat} {cs : List Value} {y : DataW H × List MemPlace} (h : DataW.trod enc Tryz.prog W 0 (fun _ => true) true n S cs = some y) :
    ∃ (A : Option Addr) (len cap : Nat) (l : List α), cs = [.slice A len cap] ∧ l.length = len ∧ len ≤ cap ∧ cap ≤ 9223372036854775807 ∧ Els E W W.heap.size A l ∧ ∀ x ∈ l, R x := by
  rcases Go.Deep.open_slice hS h with ⟨rfl, _⟩ | ⟨ad, len, cap, m, n, D, Pl, rfl, _, hl, hm, hmm, _, hi⟩
  · exact ⟨none, 0, 0, [], rfl, rfl, Nat.le_refl _, by omega, Els.nil, fun x hx => by simp at hx⟩
  · rw [if_pos rfl] at hmm
    have hone : ∀ i : Fin len, ∃ z : α, R z ∧ ∀ j u, (E.cells z)[j]? = some u → W.cell? (ad.add (i.1 * E.k + j)) = some u := fun i => by
      obtain ⟨cs', hc, ht⟩ := hi i.1 (by have := i.2; omega)
      rw [hk] at hc
      obtain ⟨_, hcl, hat⟩ := World.cells?_some hc
      obtain ⟨z, rfl, k⟩ := one hcl ht
      refine ⟨z, k, fun j u hu => ?_⟩
      obtain ⟨hj1, hj2⟩ := List.getElem?_eq_some_iff.1 hu
      have g0 := hat j (by rw [← hcl]; exact hj1)
      rw [add_add] at g0
      rw [g0]
      simpa using hu
    refine ⟨some ad, len, cap, List.ofFn fun i => (hone i).choose, rfl, by simp, hl, by unfold maxLen at hm; exact hm, fun hpos => ?_, fun x hx => ?_⟩
    · have h0 : 0 < len := by simpa using hpos
      obtain ⟨u0, hu0⟩ : ∃ u, (E.cells (hone ⟨0, h0⟩).choose)[0]? = some u := ⟨_, List.getElem?_eq_getElem (by rw [E.len]; exact E.pos)⟩
      refine ⟨ad, rfl, ?_, fun i u hu => ?_⟩
      · have := World.block_lt_of_cell? W _ ((hone ⟨0, h0⟩).choose_spec.2 0 _ hu0)
        rwa [block_add] at this
      · have hlen := (List.getElem?_eq_some_iff.1 hu).1
        rw [ev_length, List.length_ofFn] at hlen
        have hp := E.pos
        have hi2 : i / E.k < len := Nat.div_lt_of_lt_mul (by rw [Nat.mul_comm]; exact hlen)
        have hm5 := Nat.mod_lt i hp
        have hx : (List.ofFn fun i => (hone i).choose)[i / E.k]? = some (hone ⟨i / E.k, hi2⟩).choose := by rw [List.getElem?_ofFn, dif_pos hi2]
        have hg := ev_get E hx (i := i % E.k) hm5
        have hdm : i / E.k * E.k + i % E.k = i := by rw [Nat.mul_comm]; exact Nat.div_add_mod i E.k
        rw [hdm, hu] at hg
        have := (hone ⟨i / E.k, hi2⟩).choose_spec.2 (i % E.k) u hg.symm
        rw [hdm] at this
        exact this
    · obtain ⟨i, hi2, e⟩ := List.getElem_of_mem hx
      rw [List.length_ofFn] at hi2
      rw [List.getElem_ofFn] at e
      rw [← e]
      exact (hone ⟨i, hi2⟩).choose_spec.1
theorem role_cells {n : Nat} {cs : List Value} {y : DataW H × List MemPlace} (hl : cs.length = 2) (h : DataW.trod enc Tryz.prog W 0 (fun _ => true) true n 69 cs = some y) : ∃ x : Ro, cs = encR.cells x ∧ True := by
  match cs, hl with
  | [c0, c1], _ =>
    obtain ⟨y0, y1, m, _, _, h0, h1⟩ := trod_struct2 Tryz.underlying69 h
    obtain ⟨o, e0, _, _⟩ := DataW.trod_string Tryz.underlying9 h0
    obtain ⟨n, e1, _, _⟩ := DataW.trod_string Tryz.underlying9 h1
    simp [cellsStr] at e0 e1
    subst e0 e1
    exact ⟨(o, n), rfl, trivial⟩
theorem id_cells {n : Nat} {cs : List Value} {y : DataW H × List MemPlace} (hl : cs.length = 2) (h : DataW.trod enc Tryz.prog W 0 (fun _ => true) true n 65 cs = some y) : ∃ x : Int × Int, cs = encI.cells x ∧ True := by
  match cs, hl with
  | [c0, c1], _ =>
    obtain ⟨y0, y1, m, _, _, h0, h1⟩ := trod_struct2 Tryz.underlying65 h
    obtain ⟨o, e0, _, _⟩ := DataW.trod_int Tryz.underlying3 h0
    obtain ⟨n, e1, _, _⟩ := DataW.trod_int Tryz.underlying3 h1
    simp [cellsInt] at e0 e1
    subst e0 e1
    exact ⟨(o, n), rfl, trivial⟩
theorem roles_cell {n : Nat} {cs : List Value} {y : DataW H × List MemPlace} (h : DataW.trod enc Tryz.prog W 0 (fun _ => true) true n 23 cs = some y) :
    ∃ (A : Option Addr) (len cap : Nat) (l : List Ro), cs = [.slice A len cap] ∧ l.length = len ∧ len ≤ cap ∧ cap ≤ 9223372036854775807 ∧ ElsQ encR W (fun b => b < W.heap.size) A l := by
  obtain ⟨A, len, cap, l, h1, h2, h3, h4, h5, _⟩ := slice_cell (E := encR) Tryz.underlying23 cellsRole (fun _ => True) (fun hl h => role_cells hl h) h
  exact ⟨A, len, cap, l, h1, h2, h3, h4, elsQ_of h5⟩
theorem ids_cell {n : Nat} {cs : List Value} {y : DataW H × List MemPlace} (h : DataW.trod enc Tryz.prog W 0 (fun _ => true) true n 24 cs = some y) :
    ∃ (A : Option Addr) (len cap : Nat) (l : List (Int × Int)), cs = [.slice A len cap] ∧ l.length = len ∧ len ≤ cap ∧ cap ≤ 9223372036854775807 ∧ ElsQ encI W (fun b => b < W.heap.size) A l := by
  obtain ⟨A, len, cap, l, h1, h2, h3, h4, h5, _⟩ := slice_cell (E := encI) Tryz.underlying24 cellsId (fun _ => True) (fun hl h => id_cells hl h) h
  exact ⟨A, len, cap, l, h1, h2, h3, h4, elsQ_of h5⟩
theorem cav_cells {n : Nat} {cs : List Value} {y : DataW H × List MemPlace} (hl : cs.length = 4) (h : DataW.trod enc Tryz.prog W 0 (fun _ => true) true n 51 cs = some y) :
    ∃ x : CH, cs = encC.cells x ∧ ∃ c : Cav, CavAt W (fun b => b < W.heap.size) x c := by
  obtain ⟨xs, n, _, rfl, _, hlen, hf⟩ := DataW.trod_struct Tryz.underlying51 h
  match xs, hlen with
  | [y0, y1, y2, y3], _ =>
    match cs, hl with
    | [c0, c1, c2, c3], _ =>
      have h0 := hf 0 _ rfl
      have h1 := hf 1 _ rfl
      have h2 := hf 2 _ rfl
      have h3 := hf 3 _ rfl
      simp [cellsStr, cellsInt, cellsRoles] at h0 h1 h2 h3
      obtain ⟨k0, e0, _, _⟩ := DataW.trod_int Tryz.underlying3 h0
      obtain ⟨A, len, cap, l, e1, q1, q2, q3, q4⟩ := roles_cell h1
      obtain ⟨k2, e2, _, _⟩ := DataW.trod_int Tryz.underlying3 h2
      obtain ⟨s3, e3, _, _⟩ := DataW.trod_string Tryz.underlying9 h3
      simp at e0 e1 e2 e3
      subst e0 e1 e2 e3
      exact ⟨⟨k0, A, len, cap, k2, s3⟩, rfl, ⟨k0, l, k2, s3⟩, rfl, rfl, rfl, q1, q2, q3, q4⟩
theorem cavs_cell {n : Nat} {cs : List Value} {y : DataW H × List MemPlace} (h : DataW.trod enc Tryz.prog W 0 (fun _ => true) true n 25 cs = some y) :
    ∃ (A : Option Addr) (len cap : Nat) (l : List Cav), cs = [.slice A len cap] ∧ l.length = len ∧ len ≤ cap ∧ cap ≤ 9223372036854775807 ∧ CavsQ W (fun b => b < W.heap.size) A l := by
  obtain ⟨A, len, cap, l, h1, h2, h3, h4, h5, h6⟩ := slice_cell (E := encC) Tryz.underlying25 cellsCav (fun x => ∃ c : Cav, CavAt W (fun b => b < W.heap.size) x c) (fun hl h => cav_cells hl h) h
  classical
  obtain ⟨f, hf⟩ : ∃ f : CH → Cav, ∀ x ∈ l, CavAt W (fun b => b < W.heap.size) x (f x) := ⟨fun x => if h : ∃ c, CavAt W (fun b => b < W.heap.size) x c then h.choose else ⟨0, [], 0, E0⟩, fun x hx => by
    simp only [dif_pos (h6 x hx)]
    exact (h6 x hx).choose_spec⟩
  refine ⟨A, len, cap, l.map f, h1, by rw [List.length_map]; exact h2, h3, h4, l, by simp, elsQ_of h5, fun i x c hx hc => ?_⟩
  rw [List.getElem?_map, hx] at hc
  simp only [Option.map_some, Option.some.injEq] at hc
  subst hc
  exact hf x (List.mem_of_getElem? hx)
theorem bytes_cell {n : Nat} {cs : List Value} {y : DataW H × List MemPlace} (hl : cs.length = 1) (h : DataW.trod enc Tryz.prog W 0 (fun _ => true) true n 22 cs = some y) :
    ∃ (A : Option Addr) (len cap : Nat) (l : List UInt8), cs = [.slice A len cap] ∧ l.length = len ∧ len ≤ cap ∧ cap ≤ 9223372036854775807 ∧ BytQ W (fun b => b < W.heap.size) A l := by
  have h' := h
  rcases open_ints Tryz.underlying22 Tryz.underlying5 cellsU8 h with ⟨rfl, _⟩ | ⟨a, len, cap, zs, rfl, _⟩
  · exact ⟨none, 0, 0, [], rfl, rfl, Nat.le_refl _, by omega, fun h => absurd h (by simp)⟩
  · obtain ⟨l, h1, h2, h3, h4⟩ := bytes_of (enc := enc) (d := y.1) (p := y.2) ⟨n, h'⟩
    exact ⟨some a, len, cap, l, rfl, h1, h2, h3, fun hn => by
      obtain ⟨ad, e, hb, hc⟩ := h4 hn
      exact ⟨ad, e, hb, hb, hc⟩⟩
theorem tok_cells {n : Nat} {cs : List Value} {y : DataW H × List MemPlace} (hl : cs.length = 9) (h : DataW.trod enc Tryz.prog W 0 (fun _ => true) true n 27 cs = some y) :
    ∃ (th : TH) (t : Tok), cs = th.cells ∧ TokAt W (fun b => b < W.heap.size) th t := by
  obtain ⟨xs, n, _, rfl, _, hlen, hf⟩ := DataW.trod_struct Tryz.underlying27 h
  match xs, hlen with
  | [y0, y1, y2, y3, y4, y5, y6, y7, y8], _ =>
    match cs, hl with
    | [c0, c1, c2, c3, c4, c5, c6, c7, c8], _ =>
      have h0 := hf 0 _ rfl
      have h1 := hf 1 _ rfl
      have h2 := hf 2 _ rfl
      have h3 := hf 3 _ rfl
      have h4 := hf 4 _ rfl
      have h5 := hf 5 _ rfl
      have h6 := hf 6 _ rfl
      have h7 := hf 7 _ rfl
      have h8 := hf 8 _ rfl
      simp [cellsStr, cellsInt, cellsRoles, cellsIds, cellsCavs, cellsBytes] at h0 h1 h2 h3 h4 h5 h6 h7 h8
      obtain ⟨k0, e0, _, _⟩ := DataW.trod_int Tryz.underlying3 h0
      obtain ⟨k1, e1, _, _⟩ := DataW.trod_int Tryz.underlying3 h1
      obtain ⟨k2, e2, _, _⟩ := DataW.trod_int Tryz.underlying3 h2
      obtain ⟨s3, e3, _, _⟩ := DataW.trod_string Tryz.underlying9 h3
      obtain ⟨A4, n4, c4', l4, e4, q41, q42, q43, q44⟩ := roles_cell h4
      obtain ⟨k5, e5, _, _⟩ := DataW.trod_int Tryz.underlying3 h5
      obtain ⟨A6, n6, c6', l6, e6, q61, q62, q63, q64⟩ := ids_cell h6
      obtain ⟨A7, n7, c7', l7, e7, q71, q72, q73, q74⟩ := cavs_cell h7
      obtain ⟨A8, n8, c8', l8, e8, q81, q82, q83, q84⟩ := bytes_cell rfl h8
      simp at e0 e1 e2 e3 e4 e5 e6 e7 e8
      subst e0 e1 e2 e3 e4 e5 e6 e7 e8
      exact ⟨⟨k0, k1, k2, s3, A4, n4, c4', k5, A6, n6, c6', A7, n7, c7', A8, n8, c8'⟩, ⟨k0, k1, k2, s3, l4, k5, l6, l7, l8⟩, rfl, rfl, rfl, rfl, rfl, rfl, q41, q42, q43, q44, q61, q62, q63, q64, q71, q72, q73, q74, q81, q82, q83, q84⟩
/-- WHAT THE WALK IS TOLD OF A TOKEN THAT CAME IN. -/
theorem tok_of {base : Nat} {v : Value} {p : List MemPlace} {d : DataW H} (hv : Value.okWide Tryz.prog W .any base 27 v) (h : DataW.Trod enc Tryz.prog W 0 (fun _ => true) true 27 v d p) :
    ∃ (th : TH) (t : Tok), v = .agg th.cells.toArray ∧ TokAt W (fun b => b < W.heap.size) th t := by
  obtain ⟨cs, rfl, hsz⟩ := okWide_struct Tryz.underlying27 hv
  rw [cellsTok] at hsz
  obtain ⟨l⟩ := cs
  obtain ⟨fuel, hf⟩ := h
  have hf' : DataW.trod enc Tryz.prog W 0 (fun _ => true) true fuel 27 l = some (d, p) := hf
  obtain ⟨th, t, rfl, k⟩ := tok_cells hsz hf'
  exact ⟨th, t, rfl, k⟩
theorem cav_of {base : Nat} {v : Value} {p : List MemPlace} {d : DataW H} (hv : Value.okWide Tryz.prog W .any base 51 v) (h : DataW.Trod enc Tryz.prog W 0 (fun _ => true) true 51 v d p) :
    ∃ (x : CH) (c : Cav), v = .agg x.cells.toArray ∧ CavAt W (fun b => b < W.heap.size) x c := by
  obtain ⟨cs, rfl, hsz⟩ := okWide_struct Tryz.underlying51 hv
  rw [cellsCav] at hsz
  obtain ⟨l⟩ := cs
  obtain ⟨fuel, hf⟩ := h
  have hf' : DataW.trod enc Tryz.prog W 0 (fun _ => true) true fuel 51 l = some (d, p) := hf
  obtain ⟨x, rfl, c, k⟩ := cav_cells hsz hf'
  exact ⟨x, c, rfl, k⟩
theorem role_of12 {base : Nat} {v : Value} {p : List MemPlace} {d : DataW H} (hv : Value.okWide Tryz.prog W .any base 69 v) (h : DataW.Trod enc Tryz.prog W 0 (fun _ => true) true 69 v d p) :
    ∃ o n : ByteArray, v = .agg #[.string o, .string n] := by
  obtain ⟨cs, rfl, hsz⟩ := okWide_struct Tryz.underlying69 hv
  rw [cellsRole] at hsz
  obtain ⟨l⟩ := cs
  obtain ⟨fuel, hf⟩ := h
  have hf' : DataW.trod enc Tryz.prog W 0 (fun _ => true) true fuel 69 l = some (d, p) := hf
  obtain ⟨x, rfl, _⟩ := role_cells hsz hf'
  exact ⟨x.1, x.2, rfl⟩
end
/-- WHAT THE WALK IS TOLD OF A SLICE OF CAVEATS THAT CAME IN. -/
theorem cavs_of {W : World} {a : Option Addr} {len cap : Nat} {H : Type} {enc : TypeId × Value → H} {p : List MemPlace} {d : DataW H}
    (h : DataW.Trod enc Tryz.prog W 0 (fun _ => true) true 25 (Value.slice a len cap) d p) :
    ∃ l : List Cav, l.length = len ∧ len ≤ cap ∧ cap ≤ 9223372036854775807 ∧ CavsQ W (fun b => b < W.heap.size) a l := by
  obtain ⟨fuel, hf⟩ := h
  obtain ⟨A, n, c, l, e, h1, h2, h3, h4⟩ := cavs_cell hf
  simp [Value.cells] at e
  obtain ⟨rfl, rfl, rfl⟩ := e
  exact ⟨l, h1, h2, h3, h4⟩

/-! ### TokenMints -/
namespace tokenMints
/-- WHAT THE WALK GIVES, FOR EVERY ARGUMENT AND EVERY WORLD THAT HOLDS THE TABLE. -/
theorem contract (H : Type) (enc : TypeId × Value → H) (W : World) (base : Nat) (args : Array Value) (ds gs : List (DataW H)) (before : List MemPlace)
    (hval : ∀ (j : Nat) t v, Tryz.f3.params[j]? = some t → args[j]? = some v → Value.okWide Tryz.prog W .any base t v)
    (hW : DataW.Whole enc Tryz.prog Tryz.f3.params.toList Rows.tokenMintsSpec.vars false W args.toList ds gs before) (hL : laidMetH Tryz.prog Rows.tokenMintsRow.laid W) :
    Calls Tryz.prog 3 args W fun e W' => ∃ v, e = .returned v ∧ Rows.tokenMintsSpec.post enc Tryz.prog Tryz.f3 false true false false W args v W' := by
  have hT := tab_of hL
  have hW' := hW
  obtain ⟨p, q, hA0, hV, rfl, hfz, hnd⟩ := hW
  have hA : DataW.TrodAll enc Tryz.prog W 0 (fun _ => true) true Tryz.f3.params.toList args.toList ds p := hA0
  rw [Tryz.params3] at hA hval
  obtain ⟨v0, vs0, d0, ds0, p0, q0, hargs, rfl, rfl, h0, r0⟩ := trodAll_cons hA
  obtain ⟨v1, vs1, d1, ds1, p1, q1, rfl, rfl, rfl, h1, r1⟩ := trodAll_cons r0
  obtain ⟨rfl, rfl, rfl⟩ := trodAll_nil r1
  obtain rfl : args = #[v0, v1] := by cases args; simp_all
  obtain ⟨rfl, rfl⟩ := trodVars_none hV
  obtain ⟨a0, len0, cap0, rfl⟩ := okWide_slice Tryz.underlying22 (hval 0 22 v0 rfl rfl)
  have k0 := h0
  have lt0 : ∀ x ∈ p0, x.block < W.heap.size := by obtain ⟨m, hm⟩ := k0; exact DataW.trod_lt m _ _ _ hm
  obtain ⟨l0, rfl, hlc0, hcm0, hb0⟩ := bytes_of h0
  have k1 := h1
  have lt1 : ∀ x ∈ p1, x.block < W.heap.size := by obtain ⟨m, hm⟩ := k1; exact DataW.trod_lt m _ _ _ hm
  obtain ⟨th1, tk1, rfl, ta1⟩ := tok_of (hval 1 27 v1 rfl rfl) h1
  clear hA0
  refine (tokenMints_walk lives12_any hT a0 l0 _ cap0 rfl hlc0 hcm0 hb0 ta1).mono fun e W' ⟨he, bel⟩ => ?_
  subst he
  exact ⟨_, rfl, _, _, _, [], _, [], hW', trodAll_mk1 (shut_bool Tryz.underlying4 _), (trodAll_cons_mk (Below.trod laidOut (by kernel_rfl) (of_decide_eq_true (by kernel_rfl)) k0 bel lt0) (trodAll_cons_mk (Below.trod laidOut (by kernel_rfl) (of_decide_eq_true (by kernel_rfl)) k1 bel lt1) trodAll_mk0)), rfl, bel.frame _, fun h => by cases h⟩

set_option maxRecDepth 100000 in
theorem laid_met (os : Os) : laidMet Tryz.prog Rows.tokenMintsRow.laid ((laidWorld os).forCall (fun _ _ => 0) ⟨#[], #[Value.slice none 0 0, Value.agg #[.int .i64 0, .int .i64 0, .int .i64 0, .string ⟨#[]⟩, .slice none 0 0, .int .i64 0, .slice none 0 0, .slice none 0 0, .slice none 0 0]], []⟩).memory :=
  laidMet_of_run' 8 (by kernel_rfl) (by kernel_rfl)
theorem reads (os : Os) {H : Type} (enc : TypeId × Value → H) : ∃ places, DataW.whole enc Tryz.prog ((laidWorld os).forCall (fun _ _ => 0) ⟨#[], #[Value.slice none 0 0, Value.agg #[.int .i64 0, .int .i64 0, .int .i64 0, .string ⟨#[]⟩, .slice none 0 0, .int .i64 0, .slice none 0 0, .slice none 0 0, .slice none 0 0]], []⟩).memory Tryz.f3.params.toList Rows.tokenMintsSpec.vars false (#[Value.slice none 0 0, Value.agg #[.int .i64 0, .int .i64 0, .int .i64 0, .string ⟨#[]⟩, .slice none 0 0, .int .i64 0, .slice none 0 0, .slice none 0 0, .slice none 0 0]] : Array Value).toList 8 = some ([.nil, .agg [.lit (.int .i64 0), .lit (.int .i64 0), .lit (.int .i64 0), .lit (.string []), .nil, .lit (.int .i64 0), .nil, .nil, .nil]], [], places) :=
  ⟨[], by kernel_rfl⟩

set_option maxRecDepth 100000 in
theorem lifted (os : Os) (started : os.Started) (H : Type) (enc : TypeId × Value → H) (F : Stop.Interp) :
    ReturnsInHanded {} Tryz.checked os 3 .any ((OpenSpec.ofChange Rows.tokenMintsSpec).preRow enc Tryz.prog Tryz.f3 Rows.tokenMintsRow.domain false Rows.tokenMintsRow.laid) (((OpenSpec.ofChange Rows.tokenMintsSpec).at F).post enc Tryz.prog Tryz.f3 false true false false) := by
  obtain ⟨places, hx⟩ := reads os enc
  refine returnsInHanded_of_row (C := Tryz.checked) (s := OpenSpec.ofChange Rows.tokenMintsSpec) own started (by kernel_rfl) Tryz.func3
    (witness_row_at (enc := enc) (C := Tryz.checked) false (laidWorld os) #[Value.slice none 0 0, Value.agg #[.int .i64 0, .int .i64 0, .int .i64 0, .string ⟨#[]⟩, .slice none 0 0, .int .i64 0, .slice none 0 0, .slice none 0 0, .slice none 0 0]] rfl (by kernel_rfl) (by kernel_rfl) (by kernel_rfl)
      (OpenSpec.preRow_of_cond 8 hx (by kernel_rfl) (fun k hk => by cases hk) (by kernel_rfl) (laid_met os))) ?_
  intro W base args ds gs before hval hW _ _ _ hL _ _
  exact contract H enc W base args ds gs before hval hW hL

theorem said : Rows.TokenMintsSaid :=
  OpenClaim.holds_of_cond 3 Tryz.f3 rfl rfl rfl rfl rfl rfl rfl ⟨rfl, rfl, rfl, rfl, rfl⟩ rfl rfl rfl rfl rfl (by kernel_rfl) Tryz.func3 (by kernel_rfl)
    (of_decide_eq_true (by kernel_rfl)) (by unfold Func.isWrapper; first | (rw [if_pos (by decide +kernel)]; kernel_rfl) | (rw [if_neg (by decide +kernel)]; exact ⟨rfl, rfl⟩))
    (fun os started H enc _ F => by rw [OpenClaim.pre_eq_preRow]; exact lifted os started H enc F)

theorem plain (f : FuncId) (fn : Func) (hf : Tryz.pinned.checked.prog.funcNamed "livery/liverylaw12.TokenMints" = some f) (hfn : Tryz.pinned.checked.prog.funcs[f]? = some fn) :
    false = Tryz.pinned.checked.prog.looks [] ∧ ∀ (j : Nat) t, fn.params[j]? = some t → Tryz.pinned.checked.prog.wantsStandIn t = false := by
  obtain rfl : f = 3 := Option.some.inj ((show Tryz.prog.funcNamed "livery/liverylaw12.TokenMints" = some 3 by kernel_rfl).symm.trans hf) |>.symm
  obtain rfl : fn = Tryz.f3 := (Option.some.inj (Tryz.func3.symm.trans hfn)).symm
  refine ⟨by kernel_rfl, fun j t ht => ?_⟩
  rw [Tryz.params3] at ht
  have hmem := Array.mem_of_getElem? ht
  simp at hmem
  rcases hmem with rfl | rfl
  · exact (show Tryz.prog.wantsStandIn 22 = false by kernel_rfl)
  · exact (show Tryz.prog.wantsStandIn 27 = false by kernel_rfl)

/-- THE CARD. -/
theorem card : Rows.TokenMintsCardSaid :=
  Claim7.holds_tied_plain_at .later [] _ _ _ _ said (fun _ h => by cases h) (by kernel_rfl) (fun _ h => by cases h) tokenMints_row_tie rfl ⟨rfl, rfl⟩ (by kernel_rfl) rfl plain (by kernel_rfl)
end tokenMints
end Go.Proofs.YtaadmgbmaekicaaGreatDoor.Sh
