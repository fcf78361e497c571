/-
  IDs as keys; the map of credentials.
-/
import Derived.Test.YtfbapbpggicfbaaGreatDoorJz12
import Derived.KernelRfl
import Derived.Test.YtfbapbpggicfbaaGreatDoorJz3
import Derived.Lib.DecodeN
set_option linter.unusedVariables false
set_option linter.unusedSimpArgs false
namespace Go.Proofs.YtfbapbpggicfbaaGreatDoor.Sh
open Go Go.RowKit

set_option linter.unusedVariables false
set_option linter.unusedSimpArgs false
open Go.Maps (Keyed)
theorem pr_laidOut : laidOutB Tryz.prog = true := by kernel_rfl
theorem pr_types : ∃ n, Tryz.prog.types.size = n + 8 := ⟨Tryz.prog.types.size - 8, by kernel_rfl⟩
theorem rowI : (26 : TypeId) < Tryz.prog.types.size := of_decide_eq_true (by kernel_rfl)
theorem wideI : (match Tryz.prog.underlying 26 with | some (.array _ _) | some (.struct _) => true | _ => false) = true := by kernel_rfl
set_option maxRecDepth 100000 in
theorem klI : WideMaps.KeyLaw Tryz.prog 26 := deep_law_laid pr_laidOut (m := 2) (by omega) rowI (by kernel_rfl) wideI
theorem lawI : Keyed Tryz.prog 26 := Keyed.of_law klI
def iV (i : Int × Int) : Value := .agg #[.int .i64 i.1, .int .i64 i.2]
def ki (i : Int × Int) : Lit := .string (keyBytes [.int .i64 i.1, .int .i64 i.2])
section
variable {P : Program} {T S : TypeId}
theorem kl_I (hS : P.underlying S = some (.int .i64)) (d : Nat) {a : Int} (h : (Lit.int .i64 a).wf = true) : P.keyLits (d + 1) S [.int .i64 a] = some [.int .i64 a] := by
  unfold Program.keyLits
  rw [hS]
  exact if_pos ⟨rfl, h⟩
theorem kl_2I {n0 n1 : String} {x0 x1 : Nat} {g0 g1 : Bool} {t0 t1 k0 k1 : String} (hu : P.underlying T = some (.struct #[⟨n0, S, 0, g0, t0, k0, x0⟩, ⟨n1, S, 1, g1, t1, k1, x1⟩])) (hS : P.underlying S = some (.int .i64)) (e0 : (n0 != "_") = true) (e1 : (n1 != "_") = true)
    (hc : P.cellsOf T = 2) (hs : P.cellsOf S = 1) (d : Nat) {a b : Int} (h1 : (Lit.int .i64 a).wf = true) (h2 : (Lit.int .i64 b).wf = true) :
    P.keyLits (d + 2) T [.int .i64 a, .int .i64 b] = some [.int .i64 a, .int .i64 b] := by
  unfold Program.keyLits
  rw [hu]
  simp only [List.length_cons, List.length_nil, hc, List.mapM_cons, List.mapM_nil, hs, List.drop_zero, List.take_succ_cons, List.take_zero, List.drop_succ_cons, kl_I hS d h1, kl_I hS d h2]
  simp
  exact ⟨bne_iff_ne.1 e0, bne_iff_ne.1 e1⟩
theorem key2I {n0 n1 : String} {x0 x1 : Nat} {g0 g1 : Bool} {t0 t1 k0 k1 : String} (hu : P.underlying T = some (.struct #[⟨n0, S, 0, g0, t0, k0, x0⟩, ⟨n1, S, 1, g1, t1, k1, x1⟩])) (hS : P.underlying S = some (.int .i64)) (e0 : (n0 != "_") = true) (e1 : (n1 != "_") = true)
    (hk : P.keyType T = true) (hc : P.cellsOf T = 2) (hs : P.cellsOf S = 1) {n : Nat} (hn : P.types.size = n + 8) {a b : Int} (h1 : (Lit.int .i64 a).wf = true) (h2 : (Lit.int .i64 b).wf = true) :
    keyOf P T (.agg #[.int .i64 a, .int .i64 b]) = some (.string (keyBytes [.int .i64 a, .int .i64 b])) := by
  have hf : (Value.agg #[.int .i64 a, .int .i64 b]).formed P T = true := by unfold Value.formed; rw [hu]; simp only; rw [hc]; rfl
  unfold keyOf
  rw [hu]
  simp only [hk, hf, Bool.and_self, if_true]
  show (P.keyLits (P.types.size + 1) T [.int .i64 a, .int .i64 b]).map _ = _
  rw [hn, show n + 8 + 1 = (n + 7) + 2 by omega, kl_2I hu hS e0 e1 hc hs _ h1 h2]
  rfl
end
theorem wfI {n : Int} (h : -9223372036854775808 ≤ n ∧ n ≤ 9223372036854775807) : (Lit.int .i64 n).wf = true := by
  simp [Lit.wf, IntKind.min, IntKind.max, IntKind.signed, IntKind.bits]
  omega
theorem keyI {i : Int × Int} (h : okI i) : keyOf Tryz.prog 26 (iV i) = some (ki i) := by
  obtain ⟨n, hn⟩ := pr_types
  exact key2I Tryz.underlying26 Tryz.underlying3 rfl rfl (by kernel_rfl) (by kernel_rfl) (by kernel_rfl) hn (wfI h.1) (wfI h.2)
theorem ki_inj {a b : Int × Int} (ha : okI a) (hb : okI b) (e : ki a = ki b) : a = b := by
  have := lawI.inj (keyI ha) (e ▸ keyI hb)
  obtain ⟨a1, a2⟩ := a
  obtain ⟨b1, b2⟩ := b
  simp [iV] at this
  rw [this.1, this.2]
/-- The first one of an ID. -/
def look (cs : List Crd) (i : Int × Int) : Option Crd := cs.find? fun c => decide ((c.d, c.q) = i)
theorem look_mem {cs : List Crd} {i : Int × Int} {c : Crd} (h : look cs i = some c) : c ∈ cs ∧ (c.d, c.q) = i := by
  unfold look at h
  exact ⟨List.mem_of_find?_eq_some h, by simpa using List.find?_some h⟩
theorem look_none {cs : List Crd} {i : Int × Int} (h : look cs i = none) : ∀ c ∈ cs, (c.d, c.q) ≠ i := fun c hc e => by
  unfold look at h
  have := List.find?_eq_none.1 h c hc
  simp [e] at this
/-- Each ID once. -/
def OnceI (cs : List Crd) : Prop := ∀ c ∈ cs, ∀ c' ∈ cs, (c.d, c.q) = (c'.d, c'.q) → c = c'
theorem look_of {cs : List Crd} (h : OnceI cs) {c : Crd} (hc : c ∈ cs) : look cs (c.d, c.q) = some c := by
  cases hl : look cs (c.d, c.q) with
  | none => exact absurd rfl (look_none hl c hc)
  | some c' =>
    obtain ⟨h1, h2⟩ := look_mem hl
    rw [h c' h1 c hc h2]
theorem look_snoc {cs : List Crd} {c : Crd} (i : Int × Int) : look (cs ++ [c]) i = (look cs i).or (if (c.d, c.q) = i then some c else none) := by
  unfold look
  rw [List.find?_append]
  congr 1
  by_cases h : (c.d, c.q) = i
  · rw [if_pos h]; simp [h]
  · rw [if_neg h]; simp [h]
/-- The map of credentials: at block b, with room for n stores. -/
def CMap (w : World) (b n : Nat) (cs : List Crd) : Prop := ∃ D : DataW Value, w.ownsMap Tryz.prog 26 tokR b n D ∧ ∀ i, okI i → mget D (ki i) = (look cs i).map fun c => .agg c.cells.toArray
theorem CMap.new (w : World) : CMap (w.alloc (.map #[] 0)) w.heap.size 0 [] := ⟨_, World.ownsMap_made w _ _ _, fun i _ => rfl⟩
theorem CMap.at' {w w' : World} {b n : Nat} {cs : List Crd} (h : CMap w b n cs) (hb : w'.heap[b]? = w.heap[b]?) : CMap w' b n cs := by
  obtain ⟨D, ⟨es, clock, h1, r⟩, h2⟩ := h
  exact ⟨D, ⟨es, clock, hb.trans h1, r⟩, h2⟩
theorem CMap.lt {w : World} {b n : Nat} {cs : List Crd} (h : CMap w b n cs) : b < w.heap.size := by obtain ⟨D, h1, _⟩ := h; exact h1.lt
theorem CMap.kept {w w' : World} {b n : Nat} {cs : List Crd} (h : CMap w b n cs) (hb : Below w.heap.size w w') : CMap w' b n cs := h.at' (hb.block b h.lt)
set_option maxRecDepth 100000 in
theorem zeroC (w : World) : (zeroValue 43).run Tryz.prog w = .ok (.agg #[.int .i64 0, .int .i64 0, .string ⟨#[]⟩, .int .i64 0, .string ⟨#[]⟩, .string ⟨#[]⟩, .string ⟨#[]⟩, .string ⟨#[]⟩, .string ⟨#[]⟩]) w := by kernel_rfl
theorem CMap.look {w : World} {b n : Nat} {cs : List Crd} (h : CMap w b n cs) {i : Int × Int} (hi : okI i) :
    (Instr.lookup 38 (.map (some b)) (.agg #[.int .i64 i.1, .int .i64 i.2]) true).run Tryz.prog w = .ok (.tuple #[((Sh.look cs i).map fun c => Value.agg c.cells.toArray).getD (.agg #[.int .i64 0, .int .i64 0, .string ⟨#[]⟩, .int .i64 0, .string ⟨#[]⟩, .string ⟨#[]⟩, .string ⟨#[]⟩, .string ⟨#[]⟩, .string ⟨#[]⟩]), .bool (Sh.look cs i).isSome]) w := by
  obtain ⟨D, h1, h2⟩ := h
  have h3 := h2 i hi
  rcases map_cases h1 lawI Tryz.underlying38 (zeroC w) (keyI hi) true with ⟨h4, h5⟩ | ⟨v, h4, h5⟩
  · rw [h4] at h3
    have e : Sh.look cs i = none := by
      cases hl : Sh.look cs i with
      | none => rfl
      | some c => rw [hl] at h3; cases h3
    rw [e]
    exact h5
  · rw [h4] at h3
    cases hl : Sh.look cs i with
    | none => rw [hl] at h3; cases h3
    | some c =>
      rw [hl] at h3
      have e : v = .agg c.cells.toArray := Option.some.inj h3
      rw [e] at h5
      exact h5
theorem CMap.store {w : World} {b n : Nat} {cs : List Crd} (h : CMap w b n cs) (hn : n < 1000000) {c : Crd} (hi : okI (c.d, c.q)) (hno : Sh.look cs (c.d, c.q) = none) :
    ∃ w', (Instr.mapUpdate 38 (.map (some b)) (.agg #[.int .i64 c.d, .int .i64 c.q]) (.agg c.cells.toArray)).run Tryz.prog w = .ok () w' ∧ CMap w' b (n + 1) (cs ++ [c]) ∧ w.grownBy w' (some b) := by
  obtain ⟨D, h1, h2⟩ := h
  obtain ⟨w', e1, e2, e3⟩ := map_store (val := .agg c.cells.toArray) h1 lawI Tryz.underlying38 (by unfold maxLen; omega) (keyI hi)
  refine ⟨w', e1, ⟨_, e2, fun i hoi => ?_⟩, e3⟩
  rw [look_snoc]
  by_cases h : (c.d, c.q) = i
  · subst h
    rw [mget_same h1 lawI (keyI hi), if_pos rfl, hno]
    rfl
  · rw [mget_other (fun e => h (ki_inj hoi hi e).symm), h2 i hoi, if_neg h, Option.or_none]
end Go.Proofs.YtfbapbpggicfbaaGreatDoor.Sh
/-
  A step of a range over a string, and what May and Number make of it: pure part.
-/
namespace Go.Proofs.YtfbapbpggicfbaaGreatDoor.Sh
open Go Go.RowKit

theorem decodeN_cover (n b0 b1 b2 b3 : Nat) (hn : 1 ≤ n) : 1 ≤ (Lib.decodeN n b0 b1 b2 b3).2 ∧ (Lib.decodeN n b0 b1 b2 b3).2 ≤ n ∧ (Lib.decodeN n b0 b1 b2 b3).2 ≤ 4 ∧
    (1 < (Lib.decodeN n b0 b1 b2 b3).2 → 128 ≤ b1) ∧ (2 < (Lib.decodeN n b0 b1 b2 b3).2 → 128 ≤ b2) ∧ (3 < (Lib.decodeN n b0 b1 b2 b3).2 → 128 ≤ b3) := by
  unfold Lib.decodeN
  repeat' split
  all_goals (simp only; omega)
theorem getBang (s : ByteArray) {j : Nat} {y : UInt8} (hy : s.data.toList[j]? = some y) : s.get! j = y := by
  obtain ⟨h, e⟩ := sget s hy
  rw [← e]
  have := get_at s j h
  simpa using this
/-- A STEP OF A RANGE OVER A STRING, at a byte x: a rune R, and on to Z; the bytes between are no ASCII. -/
theorem next_at (s : ByteArray) {k : Nat} {x : UInt8} (hx : s.data.toList[k]? = some x) :
    ∃ R Z : Nat, (∀ (P : Program) (w : World) ty, (Instr.next (.pointer (some ⟨w.heap.size, 0, none⟩)) true ty).run P (w.iter s k) = .ok (.tuple #[.bool true, .int .i64 k, .int .i32 R]) (w.iter s Z)) ∧
      k < Z ∧ Z ≤ s.size ∧ R ≤ 2147483647 ∧ (x.toNat < 128 → R = x.toNat ∧ Z = k + 1) ∧ (128 ≤ x.toNat → 128 ≤ R) ∧ ∀ j y, k < j → j < Z → s.data.toList[j]? = some y → 128 ≤ y.toNat := by
  obtain ⟨hk, hsx⟩ := sget s hx
  refine ⟨(Utf8.decode s k).1, k + (Utf8.decode s k).2, fun P w ty => run_next_any w s k ty hk, ?_⟩
  have hc := decodeN_cover (s.size - k) (s.get! k).toNat (s.get! (k + 1)).toNat (s.get! (k + 2)).toNat (s.get! (k + 3)).toNat (by omega)
  have hle := decode_le s k
  have hd := Lib.decode_at s k
  rw [← hd] at hc
  refine ⟨by omega, by omega, hle, fun h => ?_, fun h => (decode_high s k hk (by rw [hsx]; exact h)).1, fun j y h1 h2 hy => ?_⟩
  · have := decode_ascii s k hk (by rw [hsx]; exact h)
    rw [this, hsx]
    exact ⟨rfl, rfl⟩
  · have e := getBang s hy
    rcases (by omega : j = k + 1 ∨ j = k + 2 ∨ j = k + 3) with rfl | rfl | rfl
    · rw [← e]; exact hc.2.2.2.1 (by omega)
    · rw [← e]; exact hc.2.2.2.2.1 (by omega)
    · rw [← e]; exact hc.2.2.2.2.2 (by omega)
theorem iter_below (w : World) (s : ByteArray) (k : Nat) : Below w.heap.size w (w.iter s k) := (Below.refl _ _).alloc (Nat.le_refl _) _

def letN (R : Nat) : Bool := decide (97 ≤ R ∧ R ≤ 122)
def digN (R : Nat) : Bool := decide (48 ≤ R ∧ R ≤ 57)
theorem letN_of {R : Nat} {x : UInt8} (h1 : x.toNat < 128 → R = x.toNat) (h2 : 128 ≤ x.toNat → 128 ≤ R) : letN R = letter x := by
  unfold letN letter
  rcases Nat.lt_or_ge x.toNat 128 with h | h
  · rw [h1 h]; simp
  · have := h2 h
    rw [decide_eq_false (by omega)]
    simp; omega
theorem digN_of {R : Nat} {x : UInt8} (h1 : x.toNat < 128 → R = x.toNat) (h2 : 128 ≤ x.toNat → 128 ≤ R) : digN R = digit x := by
  unfold digN digit
  rcases Nat.lt_or_ge x.toNat 128 with h | h
  · rw [h1 h]; simp
  · have := h2 h
    rw [decide_eq_false (by omega)]
    simp; omega

theorem may_end {l : List UInt8} (h : ∀ j x, l[j]? = some x → (letter x = true ∨ (0 < j ∧ digit x = true))) : mayL l = (decide (1 ≤ l.length) && decide (l.length ≤ 8)) := by
  cases l with
  | nil => rfl
  | cons y t =>
    rw [mayL_cons]
    have h0 : letter y = true := (h 0 y rfl).resolve_right (fun k => Nat.lt_irrefl _ k.1)
    have ht : t.all okName = true := by
      rw [List.all_eq_true]
      intro x hx
      obtain ⟨j, hj⟩ := List.getElem?_of_mem hx
      unfold okName
      rw [Bool.or_eq_true]
      exact (h (j + 1) x (by simpa using hj)).imp id fun k => k.2
    rw [h0, ht]
    simp
theorem may_bad {l : List UInt8} {j : Nat} {x : UInt8} (hx : l[j]? = some x) (h : letter x = false) (h2 : j = 0 ∨ digit x = false) : mayL l = false := by
  cases l with
  | nil => rfl
  | cons y t =>
    rw [mayL_cons]
    cases j with
    | zero => simp at hx; subst hx; rw [h]; rfl
    | succ j =>
      have : t.all okName = false := by
        rw [List.all_eq_false]
        refine ⟨x, List.mem_of_getElem? (by simpa using hx), ?_⟩
        unfold okName
        rw [h, h2.resolve_left (Nat.succ_ne_zero j)]
        simp
      rw [this]
      simp

theorem numL_ne {l : List UInt8} (h : numL l ≠ 0) : (∃ x : UInt8, l = [100, x] ∧ 49 ≤ x.toNat ∧ x.toNat ≤ 57) ∨
    (∃ x y : UInt8, l = [100, x, y] ∧ 49 ≤ x.toNat ∧ x.toNat ≤ 57 ∧ 48 ≤ y.toNat ∧ y.toNat ≤ 57 ∧ 10 * (x.toNat - 48) + (y.toNat - 48) ≤ 16) := by
  match l with
  | [] => exact absurd rfl h
  | [_] => exact absurd rfl h
  | [d, x] =>
    rw [numL_two] at h
    split at h
    · rename_i hc
      exact .inl ⟨x, by rw [hc.1], hc.2⟩
    · exact absurd rfl h
  | [d, x, y] =>
    rw [numL_three] at h
    split at h
    · rename_i hc
      exact .inr ⟨x, y, by rw [hc.1], hc.2⟩
    · exact absurd rfl h
  | _ :: _ :: _ :: _ :: _ => exact absurd rfl h
/-- How far Number has come: k bytes, the number m. -/
def numAt (l : List UInt8) (k m : Nat) : Prop :=
  (k = 0 ∧ m = 0) ∨ (k = 1 ∧ m = 0 ∧ l[0]? = some 100) ∨ (k = 2 ∧ 1 ≤ m ∧ m ≤ 9 ∧ l[0]? = some 100 ∧ ∃ x : UInt8, l[1]? = some x ∧ x.toNat = 48 + m) ∨
  (k = 3 ∧ 10 ≤ m ∧ m ≤ 16 ∧ l[0]? = some 100 ∧ ∃ x y : UInt8, l[1]? = some x ∧ l[2]? = some y ∧ 49 ≤ x.toNat ∧ x.toNat ≤ 57 ∧ 48 ≤ y.toNat ∧ y.toNat ≤ 57 ∧ m = 10 * (x.toNat - 48) + (y.toNat - 48))
theorem numAt_le {l : List UInt8} {k m : Nat} (h : numAt l k m) : m ≤ 16 := by
  rcases h with h | h | h | h <;> omega
theorem numAt_end {l : List UInt8} {m : Nat} (h : numAt l l.length m) : numL l = m := by
  rcases h with ⟨h, rfl⟩ | ⟨h, rfl, _⟩ | ⟨h, h1, h2, h0, x, hx, e⟩ | ⟨h, h1, h2, h0, x, y, hx, hy, g1, g2, g3, g4, e⟩
  · rw [List.eq_nil_of_length_eq_zero h]; rfl
  · match l, h with
    | [_], _ => rfl
  · match l, h with
    | [d, z], _ =>
      simp at h0 hx
      subst h0 hx
      rw [numL_two, if_pos ⟨rfl, by omega, by omega⟩]
      omega
  · match l, h with
    | [d, z, u], _ =>
      simp at h0 hx hy
      subst h0 hx hy
      rw [numL_three, if_pos ⟨rfl, by omega, by omega, by omega, by omega, by omega⟩]
      omega
theorem num_bad0 {l : List UInt8} {x : UInt8} (hx : l[0]? = some x) (h : x.toNat ≠ 100) : numL l = 0 := by
  apply Classical.byContradiction
  intro hc
  rcases numL_ne hc with ⟨a, rfl, _⟩ | ⟨a, b, rfl, _⟩ <;> (simp at hx; subst hx; exact h rfl)
theorem num_bad {l : List UInt8} {k m : Nat} (ha : numAt l k m) (hk : 0 < k) {x : UInt8} (hx : l[k]? = some x) (h : digit x = false) : numL l = 0 := by
  apply Classical.byContradiction
  intro hc
  unfold digit at h
  simp at h
  have hk3 : k = 1 ∨ k = 2 ∨ k = 3 := by rcases ha with h | h | h | h <;> omega
  rcases numL_ne hc with ⟨a, rfl, g⟩ | ⟨a, b, rfl, g⟩ <;> rcases hk3 with rfl | rfl | rfl <;> simp at hx <;> (subst hx; omega)
theorem num_step {l : List UInt8} {k m : Nat} (ha : numAt l k m) (hk : 0 < k) {x : UInt8} (hx : l[k]? = some x) (h : digit x = true) :
    (10 * m + (x.toNat - 48) = 0 ∨ 16 < 10 * m + (x.toNat - 48) → numL l = 0) ∧ (10 * m + (x.toNat - 48) ≠ 0 → 10 * m + (x.toNat - 48) ≤ 16 → numAt l (k + 1) (10 * m + (x.toNat - 48))) := by
  unfold digit at h
  simp at h
  constructor
  · intro hm
    apply Classical.byContradiction
    intro hc
    rcases ha with ⟨rfl, rfl⟩ | ⟨rfl, rfl, h0⟩ | ⟨rfl, h1, h2, h0, y, hy, e⟩ | ⟨rfl, h1, h2, h0, y, z, hy, hz, g⟩
    · omega
    · rcases numL_ne hc with ⟨a, rfl, g⟩ | ⟨a, b, rfl, g⟩ <;> simp at hx <;> (subst hx; omega)
    · rcases numL_ne hc with ⟨a, rfl, g⟩ | ⟨a, b, rfl, g⟩ <;> simp at hx hy <;> (subst hx hy; omega)
    · rcases numL_ne hc with ⟨a, rfl, g⟩ | ⟨a, b, rfl, g⟩ <;> simp at hx
  · intro h0 h16
    rcases ha with ⟨rfl, rfl⟩ | ⟨rfl, rfl, e0⟩ | ⟨rfl, h1, h2, e0, y, hy, e⟩ | ⟨rfl, h1, h2, e0, y, z, hy, hz, g⟩
    · omega
    · exact .inr (.inr (.inl ⟨rfl, by omega, by omega, e0, x, hx, by omega⟩))
    · exact .inr (.inr (.inr ⟨rfl, by omega, by omega, e0, y, x, hy, hx, by omega, by omega, by omega, by omega, by omega⟩))
    · omega
end Go.Proofs.YtfbapbpggicfbaaGreatDoor.Sh
/-
  The program's own letter, digit, May and Number, by contract.
-/
namespace Go.Proofs.YtfbapbpggicfbaaGreatDoor.Sh
open Go Go.RowKit

theorem letter_any (R : Nat) (hR : R ≤ 2147483647) (w : World) : Calls Tryz.prog 64 #[.int .i32 (R : Int)] w fun e w' => e = .returned (.bool (letN R)) ∧ w = w' := by
  by_cases h0 : 97 ≤ R
  · have h0' : 97 ≤ (R : Int) := by omega
    by_cases h1 : R ≤ 122
    · have h1' : (R : Int) ≤ 122 := by omega
      have HE : Hid (letN R = true) := hid (by unfold letN; simp; omega)
      go_enter Tryz.func64, Tryz.ntmps64
      go_wp2
      go_ret
      exact ⟨by rw [HE.out]; rfl, rfl⟩
    · have h1' : ¬ (R : Int) ≤ 122 := by omega
      have HE : Hid (letN R = false) := hid (by unfold letN; simp; omega)
      go_enter Tryz.func64, Tryz.ntmps64
      go_wp2
      go_ret
      exact ⟨by rw [HE.out]; rfl, rfl⟩
  · have h0' : ¬ 97 ≤ (R : Int) := by omega
    have HE : Hid (letN R = false) := hid (by unfold letN; simp; omega)
    go_enter Tryz.func64, Tryz.ntmps64
    go_wp2
    go_ret
    exact ⟨by rw [HE.out]; rfl, rfl⟩
theorem digit_any (R : Nat) (hR : R ≤ 2147483647) (w : World) : Calls Tryz.prog 65 #[.int .i32 (R : Int)] w fun e w' => e = .returned (.bool (digN R)) ∧ w = w' := by
  by_cases h0 : 48 ≤ R
  · have h0' : 48 ≤ (R : Int) := by omega
    by_cases h1 : R ≤ 57
    · have h1' : (R : Int) ≤ 57 := by omega
      have HE : Hid (digN R = true) := hid (by unfold digN; simp; omega)
      go_enter Tryz.func65, Tryz.ntmps65
      go_wp2
      go_ret
      exact ⟨by rw [HE.out]; rfl, rfl⟩
    · have h1' : ¬ (R : Int) ≤ 57 := by omega
      have HE : Hid (digN R = false) := hid (by unfold digN; simp; omega)
      go_enter Tryz.func65, Tryz.ntmps65
      go_wp2
      go_ret
      exact ⟨by rw [HE.out]; rfl, rfl⟩
  · have h0' : ¬ 48 ≤ (R : Int) := by omega
    have HE : Hid (digN R = false) := hid (by unfold digN; simp; omega)
    go_enter Tryz.func65, Tryz.ntmps65
    go_wp2
    go_ret
    exact ⟨by rw [HE.out]; rfl, rfl⟩

set_option maxHeartbeats 2000000 in
theorem may_any (s : ByteArray) (w : World) : Calls Tryz.prog 47 #[.string s] w fun e w' => e = .returned (.bool (mayL s.data.toList)) ∧ Below w.heap.size w w' := by
  obtain ⟨l, hl⟩ : ∃ l, s.data.toList = l := ⟨_, rfl⟩
  have hsz := size_list s
  rw [hl] at hsz ⊢
  have HL := hid hl
  have HSZ := hid hsz
  clear hl hsz
  go_enter Tryz.func47, Tryz.ntmps47
  go_wp2
  go_loopw [] (fun wr => ∃ k : Nat, k ≤ s.size ∧ Hid (∀ j x, j < k → l[j]? = some x → (letter x = true ∨ (0 < j ∧ digit x = true))) ∧ wr = w.iter s k) (fun wr => s.size - wr.iterPos w.heap.size)
  case atStart => exact ⟨0, by omega, hid (fun j x h => by omega), rfl⟩
  case round =>
    obtain ⟨k, hk, HP, rfl⟩ := hrel
    by_cases hlt : k < s.size
    · obtain ⟨x, hx⟩ : ∃ x, l[k]? = some x := ⟨_, List.getElem?_eq_getElem (by rw [HSZ.out]; exact hlt)⟩
      obtain ⟨R, Z, hN, hkZ, hZ, hR, hlow, hhigh, _⟩ := next_at s (k := k) (x := x) (by rw [HL.out]; exact hx)
      have hnx := hN Tryz.prog w
      have HX := hid hx
      have h1 := letN_of (fun h => (hlow h).1) hhigh
      have h2 := digN_of (fun h => (hlow h).1) hhigh
      have HZ : Hid (letter x = true ∨ digit x = true → Z = k + 1) := hid (fun h => (hlow (by unfold letter digit at h; simp at h; omega)).2)
      obtain ⟨b1, hb1⟩ : ∃ b, letter x = b := ⟨_, rfl⟩
      obtain ⟨b2, hb2⟩ : ∃ b, digit x = b := ⟨_, rfl⟩
      have C1 : Hid (∀ w, Calls Tryz.prog 64 #[.int .i32 (R : Int)] w fun e w' => e = .returned (.bool b1) ∧ w = w') := hid (fun w => by rw [← hb1, ← h1]; exact letter_any R hR w)
      have C2 : Hid (∀ w, Calls Tryz.prog 65 #[.int .i32 (R : Int)] w fun e w' => e = .returned (.bool b2) ∧ w = w') := hid (fun w => by rw [← hb2, ← h2]; exact digit_any R hR w)
      have HB1 := hid hb1
      have HB2 := hid hb2
      have hk00 : (0 : Int) ≤ (k : Int) := Int.natCast_nonneg _
      clear hx h1 h2 hb1 hb2 hlow hhigh hN
      go_wp2_with fail
      refine (C1.out _).mono ?_
      rintro er w2 ⟨rfl, rfl⟩
      cases b1 with
      | true =>
        have HO : Hid (∀ j x, j < k + 1 → l[j]? = some x → (letter x = true ∨ (0 < j ∧ digit x = true))) := hid (fun j z hj hz => by
          rcases Nat.lt_or_ge j k with h | h
          · exact HP.out j z h hz
          · obtain rfl : j = k := by omega
            rw [HX.out] at hz
            injection hz with hz
            subst hz
            exact .inl HB1.out)
        obtain rfl := HZ.out (.inl HB1.out)
        go_wp2
        go_roundw
        case rel => exact ⟨k + 1, by omega, HO, rfl⟩
        case measure => simp [World.iterPos_iter]; omega
      | false =>
        by_cases hk0 : k = 0
        · subst hk0
          have HF : Hid (mayL l = false) := hid (may_bad HX.out HB1.out (.inl rfl))
          go_wp2
          go_ret
          exact ⟨by rw [HF.out]; rfl, iter_below _ _ _⟩
        · have hk0' : (0 : Int) < (k : Int) := by omega
          go_wp2_with fail
          refine (C2.out _).mono ?_
          rintro er w2 ⟨rfl, rfl⟩
          cases b2 with
          | true =>
            have HO : Hid (∀ j x, j < k + 1 → l[j]? = some x → (letter x = true ∨ (0 < j ∧ digit x = true))) := hid (fun j z hj hz => by
              rcases Nat.lt_or_ge j k with h | h
              · exact HP.out j z h hz
              · obtain rfl : j = k := by omega
                rw [HX.out] at hz
                injection hz with hz
                subst hz
                exact .inr ⟨by omega, HB2.out⟩)
            obtain rfl := HZ.out (.inr HB2.out)
            go_wp2
            go_roundw
            case rel => exact ⟨k + 1, by omega, HO, rfl⟩
            case measure => simp [World.iterPos_iter]; omega
          | false =>
            have HF : Hid (mayL l = false) := hid (may_bad HX.out HB1.out (.inr HB2.out))
            go_wp2
            go_ret
            exact ⟨by rw [HF.out]; rfl, iter_below _ _ _⟩
    · obtain rfl : k = s.size := by omega
      have hnx := fun ty => run_next_end (P := Tryz.prog) w s s.size ty hlt
      have HT : Hid (mayL l = (decide (1 ≤ l.length) && decide (l.length ≤ 8))) := hid (may_end fun j x hx => HP.out j x (by have := (List.getElem?_eq_some_iff.1 hx).1; rwa [HSZ.out] at this) hx)
      by_cases g1 : 1 ≤ s.size
      · have g1' : (1 : Int) ≤ (s.size : Int) := by omega
        by_cases g8 : s.size ≤ 8
        · have g8' : (s.size : Int) ≤ 8 := by omega
          have HF : Hid (mayL l = true) := hid (by rw [HT.out, HSZ.out]; simp; omega)
          go_wp2
          go_ret
          exact ⟨by rw [HF.out]; rfl, iter_below _ _ _⟩
        · have g8' : ¬ (s.size : Int) ≤ 8 := by omega
          have HF : Hid (mayL l = false) := hid (by rw [HT.out, HSZ.out]; simp; omega)
          go_wp2
          go_ret
          exact ⟨by rw [HF.out]; rfl, iter_below _ _ _⟩
      · have g1' : ¬ (1 : Int) ≤ (s.size : Int) := by omega
        have HF : Hid (mayL l = false) := hid (by rw [HT.out, HSZ.out]; simp; omega)
        go_wp2
        go_ret
        exact ⟨by rw [HF.out]; rfl, iter_below _ _ _⟩
end Go.Proofs.YtfbapbpggicfbaaGreatDoor.Sh
