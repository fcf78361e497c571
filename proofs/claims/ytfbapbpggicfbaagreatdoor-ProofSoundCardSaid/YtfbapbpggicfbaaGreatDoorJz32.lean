/-
  The document's own of and Check, by contract.
-/
import Derived.Test.YtfbapbpggicfbaaGreatDoorJz30
import Derived.Test.YtfbapbpggicfbaaGreatDoorJz29
import Derived.Test.YtfbapbpggicfbaaGreatDoorJz31
import Derived.Test.YtfbapbpggicfbaaGreatDoorJz11
import Derived.Test.YtfbapbpggicfbaaGreatDoorJz9
import Derived.KernelRfl
set_option linter.unusedVariables false
set_option linter.unusedSimpArgs false
namespace Go.Proofs.YtfbapbpggicfbaaGreatDoor.Sh
open Go Go.RowKit

set_option linter.unusedVariables false
set_option linter.unusedSimpArgs false

set_option maxHeartbeats 2000000 in
theorem first_any (c : Crd) (h0 : -9223372036854775808 ≤ c.d) (h1 : c.d < 9223372036854775808) (w : World) :
    Calls Tryz.prog 78 #[.agg c.cells.toArray] w fun e w' => e = .returned (.agg #[.string (domB c.d), .string c.an]) ∧ Below w.heap.size w w' := by
  obtain ⟨d, q, nm, kd, wh, ao, an, bo, bn⟩ := c
  simp only at h0 h1 ⊢
  obtain ⟨D, hD⟩ : ∃ D, domB d = D := ⟨_, rfl⟩
  have HD0 : Hid (∀ w, Calls Tryz.prog 93 #[.int .i64 d] w fun e w' => e = .returned (.string D) ∧ Below w.heap.size w w') := hid (fun w => by rw [← hD]; exact refDomain_any d h0 h1 w)
  rw [hD]
  clear hD
  obtain ⟨w1, hw1⟩ : ∃ w1, w1 = (w.alloc (.cells (Crd.cells ⟨d, q, nm, kd, wh, ao, an, bo, bn⟩).toArray 43)).alloc (.cells #[.string ⟨#[]⟩, .string ⟨#[]⟩] 24) := ⟨_, rfl⟩
  have r1 : CrAt w1 w.heap.size ⟨d, q, nm, kd, wh, ao, an, bo, bn⟩ := by rw [hw1]; exact (CrAt.new w _).kept (below_box _ _ _)
  have s1 : RoleAt w1 (w.heap.size + 1) ⟨#[]⟩ ⟨#[]⟩ := by rw [hw1]; have := RoleAt.new (w.alloc (.cells (Crd.cells ⟨d, q, nm, kd, wh, ao, an, bo, bn⟩).toArray 43)) ⟨#[]⟩ ⟨#[]⟩; rwa [World.size_alloc] at this
  have b1 : Below w.heap.size w w1 := by rw [hw1]; exact (below_cr w _).alloc (by rw [World.size_alloc]; exact Nat.le_succ _) _
  unfold Crd.cells at hw1 ⊢
  simp only at hw1 ⊢
  go_enter Tryz.func78, Tryz.ntmps78
  go_wp2_with fail
  rw [← hw1]
  clear hw1
  have HK := hid (fun W (hW : Below w1.heap.size w1 W) => (⟨(r1.kept hW).cell 0 _ rfl, (r1.kept hW).cell 6 _ rfl, (s1.kept hW).c0, (s1.kept hW).c1, (s1.kept hW).f 0, (s1.kept hW).f 1⟩ :
    W.cell? ⟨w.heap.size, 0, none⟩ = some (.int .i64 d) ∧ W.cell? ⟨w.heap.size, 6, none⟩ = some (.string an) ∧ W.cell? ⟨w.heap.size + 1, 0, none⟩ = some (.string ⟨#[]⟩) ∧ W.cell? ⟨w.heap.size + 1, 1, none⟩ = some (.string ⟨#[]⟩) ∧ W.frozen? ⟨w.heap.size + 1, 0, none⟩ = false ∧ W.frozen? ⟨w.heap.size + 1, 1, none⟩ = false))
  have HS := hid (fun W (hW : Below w1.heap.size w1 W) => s1.kept hW)
  have HD := hid (Below.refl w1.heap.size w1).drew
  have H0 := hid b1
  clear r1 s1 b1
  obtain ⟨k1, k2, k3, k4, k5, k6⟩ := HK.out _ (Below.refl _ _)
  go_region_with ((go_at_call 93; (refine (HD0.out _).mono ?_); rintro er w5 ⟨rfl, bb⟩; have B1 := hid (kept_trans HD.out HD.out.size bb); (obtain ⟨j1, j2, j3, j4, j5, j6⟩ := HK.out _ B1.out); clear bb))
  all_goals
    go_wp2
    refine bodyPost_ret (results_mid (h := Tryz.results78) _ _ (w.heap.size + 1) 0 [.string D, .string an] _ rfl (range_row (pair_set (HS.out _ B1.out))) Tryz.underlying24 rfl info_role) rfl
      ⟨rfl, ((H0.out.trans (B1.out.mono H0.out.size)).setCell (Nat.le_succ _) _).setCell (Nat.le_succ _) _⟩

theorem len_two {l : List PT} (h : l.length = 2) : ∃ a b, l = [a, b] := by
  match l, h with
  | [a, b], _ => exact ⟨a, b, rfl⟩
theorem look_snoc_no {cs : List Crd} {j : Nat} {c : Crd} {i : Int × Int} (hx : cs[j]? = some c) (h : look (cs.take j) i = none) (hne : (c.d, c.q) ≠ i) : look (cs.take (j + 1)) i = none := by
  rw [take_snoc_of hx, look_snoc, h, if_neg hne]; rfl
end Go.Proofs.YtfbapbpggicfbaaGreatDoor.Sh
/-
  The document's own Check, by contract.
-/
namespace Go.Proofs.YtfbapbpggicfbaaGreatDoor.Sh
open Go Go.RowKit

set_option linter.unusedVariables false
set_option linter.unusedSimpArgs false

theorem of_self {cs : List Crd} {p : PT} : OfP cs p p.pr ↔ Cor cs p := ⟨fun h => h.2, fun h => ⟨rfl, h⟩⟩
end Go.Proofs.YtfbapbpggicfbaaGreatDoor.Sh
/-
  few, small; the walk of ProofChecks.
-/
namespace Go.Proofs.YtfbapbpggicfbaaGreatDoor.Sh
open Go Go.RowKit

set_option linter.unusedSimpArgs false
set_option linter.unusedVariables false
theorem fewC_any (A : Option Addr) (l : List Crd) (n k : Nat) (hn : l.length = n) (hk : n ≤ k) (hk2 : k ≤ 9223372036854775807) (w : World) (h : Crs w w.heap.size A l) :
    Calls Tryz.prog 4 #[.slice A n k] w fun e w' => ∃ m : Nat, e = .returned (.slice A m k) ∧ ∃ l' : List Crd, l'.length = m ∧ m ≤ 14 ∧ m ≤ k ∧ Crs w w.heap.size A l' ∧ w' = w := by
  by_cases h14 : 14 < n
  · have hN : (l.take 14).length = 14 := by rw [List.length_take]; omega
    have HY := hid (h.head (hi := 14))
    have h14' : (14 : Int) < (n : Int) := by omega
    have h14k : 14 ≤ k := by omega
    have HN := hid hN
    clear h hn hN
    go_enter Tryz.func4, Tryz.ntmps4
    go_wp2_with fail
    go_ret
    exact ⟨14, rfl, l.take 14, HN.out, Nat.le_refl _, h14k, HY.out, rfl⟩
  · have h14' : ¬ (14 : Int) < (n : Int) := by omega
    have HN := hid hn
    have HY := hid h
    clear h hn
    go_enter Tryz.func4, Tryz.ntmps4
    go_wp2_with fail
    go_ret
    exact ⟨n, rfl, l, HN.out, by omega, hk, HY.out, rfl⟩
theorem small7_any (p : PT) (w : World) (hp : PIn w w.heap.size p) :
    Calls Tryz.prog 5 #[.agg p.cells.toArray] w fun e w' => e = .returned (.bool (decide (p.size ≤ 60))) ∧ Below w.heap.size w w' := by
  have hpos := p.size_pos
  obtain ⟨o, n, x, d, q, A, c, ps⟩ := p
  obtain ⟨S, hS⟩ : ∃ S, (PT.mk o n x d q A c ps).size = S := ⟨_, rfl⟩
  have HCA := hid (fun W (hW : Below w.heap.size w W) => few7_any (.mk o n x d q A c ps) 60 W (by omega) (hp.now hW))
  have HB1 := hid ((Below.refl w.heap.size w).alloc (Nat.le_refl _) (.cells #[.string o, .string n, .string x, .int .i64 d, .int .i64 q, .slice A ps.length c] 29))
  rw [hS] at HCA hpos ⊢
  unfold PT.cells at HCA ⊢
  simp only at HCA ⊢
  clear hp hS
  by_cases hle : S ≤ 60
  · simp only [if_pos hle, decide_eq_true hle] at HCA ⊢
    have hpi : (0 : Int) < (S : Int) := by omega
    have hd : decide ((0 : Int) < (S : Int)) = true := decide_eq_true hpi
    clear hle
    go_enter Tryz.func5, Tryz.ntmps5
    go_wp2_with fail
    refine (HCA.out _ HB1.out).mono ?_
    rintro er w3 ⟨rfl, hb3⟩
    go_wp2_with fail
    go_ret
    exact ⟨by first | rfl | simp [hpi, hpos], HB1.out.trans (hb3.mono HB1.out.size)⟩
  · simp only [if_neg hle, decide_eq_false hle] at HCA ⊢
    clear hle
    go_enter Tryz.func5, Tryz.ntmps5
    go_wp2_with fail
    refine (HCA.out _ HB1.out).mono ?_
    rintro er w3 ⟨rfl, hb3⟩
    go_wp2_with fail
    go_ret
    exact ⟨by first | rfl | simp, HB1.out.trans (hb3.mono HB1.out.size)⟩
/-- What counts of a list. -/
noncomputable def cnt (l : List Crd) : List Crd := Classical.epsilon fun o => CountsOf o l
theorem cnt_of {out l : List Crd} (h : CountsOf out l) : cnt l = out := counts_uniq (Classical.epsilon_spec (p := fun o => CountsOf o l) ⟨out, h⟩) h
theorem check_fix (A : Option Addr) (all : List Crd) (n c : Nat) (hn : all.length = n) (hc : n ≤ c) (hc2 : c ≤ 9223372036854775807) (hm : n ≤ 1000) (p : PT) (w : World) (h : Crs w w.heap.size A all) (hp : PIn w w.heap.size p) :
    Calls Tryz.prog 6 #[.slice A n c, .agg p.cells.toArray] w fun e w' => e = .returned (.int .i64 (bif dc (Cor (cnt all) p) then 0 else 15)) ∧ Below w.heap.size w w' :=
  (check_any A all n c hn hc hc2 hm p w h hp).mono fun e w' ⟨out, h1, h2, h3⟩ => ⟨by rw [h2, cnt_of h1], h3⟩
end Go.Proofs.YtfbapbpggicfbaaGreatDoor.Sh
/-
  The program's solver in memory.
-/
namespace Go.Proofs.YtfbapbpggicfbaaGreatDoor.Sh
open Go Go.RowKit
open Go.Maps (Keyed)

theorem so_laidOut : laidOutB Tryz.prog = true := by kernel_rfl
theorem so_types : ∃ n, Tryz.prog.types.size = n + 8 := ⟨Tryz.prog.types.size - 8, by kernel_rfl⟩
theorem rowR : (24 : TypeId) < Tryz.prog.types.size := of_decide_eq_true (by kernel_rfl)
theorem rowP : (55 : TypeId) < Tryz.prog.types.size := of_decide_eq_true (by kernel_rfl)
theorem wideR : (match Tryz.prog.underlying 24 with | some (.array _ _) | some (.struct _) => true | _ => false) = true := by kernel_rfl
theorem wideP : (match Tryz.prog.underlying 55 with | some (.array _ _) | some (.struct _) => true | _ => false) = true := by kernel_rfl
set_option maxRecDepth 100000 in
theorem klR : WideMaps.KeyLaw Tryz.prog 24 := deep_law_laid so_laidOut (m := 2) (by omega) rowR (by kernel_rfl) wideR
set_option maxRecDepth 100000 in
theorem klP : WideMaps.KeyLaw Tryz.prog 55 := deep_law_laid so_laidOut (m := 3) (by omega) rowP (by kernel_rfl) wideP
theorem lawR : Keyed Tryz.prog 24 := Keyed.of_law klR
theorem lawP : Keyed Tryz.prog 55 := Keyed.of_law klP
theorem lawS : Keyed Tryz.prog 9 := Maps.string_keyed Tryz.underlying9
def rV (r : Rl) : Value := .agg #[.string r.1, .string r.2]
def pV (p : Pr) : Value := .agg #[.string p.1.1, .string p.1.2, .string p.2]
def ks (s : ByteArray) : Lit := .string s.data.toList
def kr (r : Rl) : Lit := .string (keyBytes [.string r.1.data.toList, .string r.2.data.toList])
def kp (p : Pr) : Lit := .string (keyBytes [.string p.1.1.data.toList, .string p.1.2.data.toList, .string p.2.data.toList])
theorem keyS {s : ByteArray} (h : s.size ≤ maxLen) : keyOf Tryz.prog 9 (.string s) = some (ks s) := WideMaps.keyOf_string_mk Tryz.underlying9 h
section
variable {P : Program} {T S R : TypeId}
theorem kl_S (hS : P.underlying S = some .string) (d : Nat) {a : ByteArray} (h : a.size ≤ maxLen) : P.keyLits (d + 1) S [.string a] = some [.string a.data.toList] := by
  unfold Program.keyLits
  rw [hS]
  exact if_pos h
theorem kl_2 {n0 n1 : String} {x0 x1 : Nat} {g0 g1 : Bool} {t0 t1 k0 k1 : String} (hu : P.underlying T = some (.struct #[⟨n0, S, 0, g0, t0, k0, x0⟩, ⟨n1, S, 1, g1, t1, k1, x1⟩])) (hS : P.underlying S = some .string) (e0 : (n0 != "_") = true) (e1 : (n1 != "_") = true)
    (hc : P.cellsOf T = 2) (hs : P.cellsOf S = 1) (d : Nat) {a b : ByteArray} (h1 : a.size ≤ maxLen) (h2 : b.size ≤ maxLen) :
    P.keyLits (d + 2) T [.string a, .string b] = some [.string a.data.toList, .string b.data.toList] := by
  unfold Program.keyLits
  rw [hu]
  simp only [List.length_cons, List.length_nil, hc, List.mapM_cons, List.mapM_nil, hs, List.drop_zero, List.take_succ_cons, List.take_zero, List.drop_succ_cons, kl_S hS d h1, kl_S hS d h2]
  simp
  exact ⟨bne_iff_ne.1 e0, bne_iff_ne.1 e1⟩
theorem key2 {n0 n1 : String} {x0 x1 : Nat} {g0 g1 : Bool} {t0 t1 k0 k1 : String} (hu : P.underlying T = some (.struct #[⟨n0, S, 0, g0, t0, k0, x0⟩, ⟨n1, S, 1, g1, t1, k1, x1⟩])) (hS : P.underlying S = some .string) (e0 : (n0 != "_") = true) (e1 : (n1 != "_") = true)
    (hk : P.keyType T = true) (hc : P.cellsOf T = 2) (hs : P.cellsOf S = 1) {n : Nat} (hn : P.types.size = n + 8) {a b : ByteArray} (h1 : a.size ≤ maxLen) (h2 : b.size ≤ maxLen) :
    keyOf P T (.agg #[.string a, .string b]) = some (.string (keyBytes [.string a.data.toList, .string b.data.toList])) := by
  have hf : (Value.agg #[.string a, .string b]).formed P T = true := by unfold Value.formed; rw [hu]; simp only; rw [hc]; rfl
  unfold keyOf
  rw [hu]
  simp only [hk, hf, Bool.and_self, if_true]
  show (P.keyLits (P.types.size + 1) T [.string a, .string b]).map _ = _
  rw [hn, show n + 8 + 1 = (n + 7) + 2 by omega, kl_2 hu hS e0 e1 hc hs _ h1 h2]
  rfl
theorem key3 {m0 m1 n0 n1 : String} {x0 x1 y0 y1 : Nat} {g0 g1 i0 i1 : Bool} {t0 t1 k0 k1 u0 u1 j0 j1 : String} (hu : P.underlying T = some (.struct #[⟨m0, R, 0, i0, u0, j0, y0⟩, ⟨m1, S, 2, i1, u1, j1, y1⟩]))
    (hr : P.underlying R = some (.struct #[⟨n0, S, 0, g0, t0, k0, x0⟩, ⟨n1, S, 1, g1, t1, k1, x1⟩])) (hS : P.underlying S = some .string) (e0 : (n0 != "_") = true) (e1 : (n1 != "_") = true) (d0 : (m0 != "_") = true) (d1 : (m1 != "_") = true)
    (hk : P.keyType T = true) (hc : P.cellsOf T = 3) (hcr : P.cellsOf R = 2) (hs : P.cellsOf S = 1) {n : Nat} (hn : P.types.size = n + 8) {a b c : ByteArray} (h1 : a.size ≤ maxLen) (h2 : b.size ≤ maxLen) (h3 : c.size ≤ maxLen) :
    keyOf P T (.agg #[.string a, .string b, .string c]) = some (.string (keyBytes [.string a.data.toList, .string b.data.toList, .string c.data.toList])) := by
  have hf : (Value.agg #[.string a, .string b, .string c]).formed P T = true := by unfold Value.formed; rw [hu]; simp only; rw [hc]; rfl
  unfold keyOf
  rw [hu]
  simp only [hk, hf, Bool.and_self, if_true]
  show (P.keyLits (P.types.size + 1) T [.string a, .string b, .string c]).map _ = _
  rw [hn]
  unfold Program.keyLits
  rw [hu]
  simp only [List.length_cons, List.length_nil, hc, List.mapM_cons, List.mapM_nil, hs, hcr, List.drop_zero, List.take_succ_cons, List.take_zero, List.drop_succ_cons, kl_2 hr hS e0 e1 hcr hs (n + 6) h1 h2, kl_S hS (n + 7) h3]
  simp
  exact ⟨bne_iff_ne.1 d0, bne_iff_ne.1 d1⟩
end
def okB (s : ByteArray) : Prop := s.size ≤ maxLen
def okR (r : Rl) : Prop := okB r.1 ∧ okB r.2
def okP (p : Pr) : Prop := okR p.1 ∧ okB p.2
theorem keyR {r : Rl} (h : okR r) : keyOf Tryz.prog 24 (rV r) = some (kr r) := by
  obtain ⟨n, hn⟩ := so_types
  exact key2 Tryz.underlying24 Tryz.underlying9 rfl rfl (by kernel_rfl) (by kernel_rfl) (by kernel_rfl) hn h.1 h.2
theorem keyP {p : Pr} (h : okP p) : keyOf Tryz.prog 55 (pV p) = some (kp p) := by
  obtain ⟨n, hn⟩ := so_types
  exact key3 Tryz.underlying55 Tryz.underlying24 Tryz.underlying9 rfl rfl rfl rfl (by kernel_rfl) (by kernel_rfl) (by kernel_rfl) (by kernel_rfl) hn h.1.1 h.1.2 h.2
theorem ks_inj (a b : ByteArray) (_ : okB a) (_ : okB b) (e : ks a = ks b) : a = b := by
  unfold ks at e
  injection e with e
  exact ba_eq e
theorem kr_inj (a b : Rl) (ha : okR a) (hb : okR b) (e : kr a = kr b) : a = b := by
  have := lawR.inj (keyR ha) (e ▸ keyR hb)
  obtain ⟨a1, a2⟩ := a
  obtain ⟨b1, b2⟩ := b
  simp [rV] at this
  rw [this.1, this.2]
theorem kp_inj (a b : Pr) (ha : okP a) (hb : okP b) (e : kp a = kp b) : a = b := by
  have := lawP.inj (keyP ha) (e ▸ keyP hb)
  obtain ⟨⟨a1, a2⟩, a3⟩ := a
  obtain ⟨⟨b1, b2⟩, b3⟩ := b
  simp [pV] at this
  rw [this.1, this.2.1, this.2.2]
/-- The pairs that are known. -/
def Knw (w : World) (b : Nat) (col : Col) (kn : List Pr) : Prop :=
  ∃ D : DataW Unit, w.ownsMap Tryz.prog 55 unitElem b kn.length D ∧ (∀ p, okP p → Maps.has D (kp p) = decide (p ∈ kn)) ∧ (∀ z, Maps.has D z = true → ∃ p ∈ kn, z = kp p) ∧ col b = some (5, .nil)
structure Sz (s : St) : Prop where
  giv : ∀ x r, r ∈ s.giv x → okR r
  inc : ∀ x r, r ∈ s.inc x → okR r
  bth : ∀ x b, b ∈ s.bth x → okR b.1 ∧ okR b.2
  lnk : ∀ x k, k ∈ s.lnk x → okB k.1 ∧ okR k.2
  kn : ∀ p ∈ s.kn, okP p
  fr : ∀ p ∈ s.fr, okP p
structure Sol (w : World) (B sb b0 b1 b2 b3 b4 : Nat) (vF : Value) (col : Col) (s : St) : Prop where
  row : w.heap[sb]? = some (.cells #[.map (some b0), .map (some b1), .map (some b2), .map (some b3), .map (some b4), vF] 82 (0, 0))
  csb : col sb = some (0, .nil)
  giv : Grp Tryz.prog encR 9 24 ks okB 1 B s.ic b0 w col s.giv
  inc : Grp Tryz.prog encR 24 24 kr okR 2 B s.ic b1 w col s.inc
  bth : Grp Tryz.prog encB 24 107 kr okR 3 B s.ic b2 w col s.bth
  lnk : Grp Tryz.prog encK 24 104 kr okR 4 B s.ic b3 w col s.lnk
  kn : Knw w b4 col s.kn
  fr : Own (E := encP) w B 55 vF s.fr
  cfr : ∀ g, vF.ownBlock = some g → col g = some (6, .nil)
  low : ∀ g, g < B → col g = none
  base : B ≤ w.heap.size
  dom : ∀ g c, col g = some c → g < w.heap.size
  sz : Sz s
section
variable {w w' : World} {B sb b0 b1 b2 b3 b4 : Nat} {vF : Value} {col col' : Col} {s : St}
theorem Knw.frame {b : Nat} {kn : List Pr} (h : Knw w b col kn) (hb : ∀ g, col g = some (5, .nil) → w'.heap[g]? = w.heap[g]?) (hcol : ∀ g, g < w.heap.size → col' g = col g) : Knw w' b col' kn := by
  obtain ⟨D, h1, h2, h3, h4⟩ := h
  have hl := h1.lt
  obtain ⟨es, clock, g1, F, g2, g3⟩ := h1
  exact ⟨D, ⟨es, clock, (hb b h4).trans g1, F, g2, g3⟩, h2, h3, (hcol b hl).trans h4⟩
/-- A world in which nothing of the solver's has turned. -/
theorem Sol.frame (h : Sol w B sb b0 b1 b2 b3 b4 vF col s) (hs : w.heap.size ≤ w'.heap.size) (hb : ∀ g c, col g = some c → w'.heap[g]? = w.heap[g]?) : Sol w' B sb b0 b1 b2 b3 b4 vF col s :=
  ⟨(hb sb _ h.csb).trans h.row, h.csb, h.giv.frame (fun g c hc _ => hb g c hc) (fun _ _ => rfl) (Nat.le_refl _), h.inc.frame (fun g c hc _ => hb g c hc) (fun _ _ => rfl) (Nat.le_refl _),
    h.bth.frame (fun g c hc _ => hb g c hc) (fun _ _ => rfl) (Nat.le_refl _), h.lnk.frame (fun g c hc _ => hb g c hc) (fun _ _ => rfl) (Nat.le_refl _), h.kn.frame (fun g hc => hb g _ hc) (fun _ _ => rfl),
    h.fr.kept (fun g hg => hb g _ (h.cfr g hg)), h.cfr, h.low, Nat.le_trans h.base hs, fun g c e => Nat.lt_of_lt_of_le (h.dom g c e) hs, h.sz⟩
theorem Sol.below (h : Sol w B sb b0 b1 b2 b3 b4 vF col s) (hb : Below w.heap.size w w') : Sol w' B sb b0 b1 b2 b3 b4 vF col s :=
  h.frame hb.size fun g c e => hb.block g (h.dom g c e)
theorem Sol.cell (h : Sol w B sb b0 b1 b2 b3 b4 vF col s) : w.cell? ⟨sb, 0, none⟩ = some (.map (some b0)) ∧ w.cell? ⟨sb, 1, none⟩ = some (.map (some b1)) ∧ w.cell? ⟨sb, 2, none⟩ = some (.map (some b2)) ∧ w.cell? ⟨sb, 3, none⟩ = some (.map (some b3)) ∧
    w.cell? ⟨sb, 4, none⟩ = some (.map (some b4)) ∧ w.cell? ⟨sb, 5, none⟩ = some vF :=
  ⟨by rw [cell_of_row w sb 0 _ _ (0, 0) h.row]; rfl, by rw [cell_of_row w sb 1 _ _ (0, 0) h.row]; rfl, by rw [cell_of_row w sb 2 _ _ (0, 0) h.row]; rfl, by rw [cell_of_row w sb 3 _ _ (0, 0) h.row]; rfl, by rw [cell_of_row w sb 4 _ _ (0, 0) h.row]; rfl,
    by rw [cell_of_row w sb 5 _ _ (0, 0) h.row]; rfl⟩
theorem Sol.frz (h : Sol w B sb b0 b1 b2 b3 b4 vF col s) (k : Nat) : w.frozen? ⟨sb, k, none⟩ = false := frozen_of_row w sb k _ _ h.row
end
end Go.Proofs.YtfbapbpggicfbaaGreatDoor.Sh
