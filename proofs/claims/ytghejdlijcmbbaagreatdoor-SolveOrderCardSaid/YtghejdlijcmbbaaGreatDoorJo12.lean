/-
  The program's solver in memory.
-/
import Derived.Test.YtghejdlijcmbbaaGreatDoorJo11
import Derived.KernelRfl
set_option linter.unusedVariables false
set_option linter.unusedSimpArgs false
namespace Go.Proofs.YtghejdlijcmbbaaGreatDoor.Sh
open Go Go.RowKit
open Go.Maps (Keyed)

theorem so_laidOut : laidOutB Tryz.prog = true := by kernel_rfl
theorem so_types : ∃ n, Tryz.prog.types.size = n + 8 := ⟨Tryz.prog.types.size - 8, by kernel_rfl⟩
theorem rowR : (33 : TypeId) < Tryz.prog.types.size := of_decide_eq_true (by kernel_rfl)
theorem rowP : (47 : TypeId) < Tryz.prog.types.size := of_decide_eq_true (by kernel_rfl)
theorem wideR : (match Tryz.prog.underlying 33 with | some (.array _ _) | some (.struct _) => true | _ => false) = true := by kernel_rfl
theorem wideP : (match Tryz.prog.underlying 47 with | some (.array _ _) | some (.struct _) => true | _ => false) = true := by kernel_rfl
set_option maxRecDepth 100000 in
theorem klR : WideMaps.KeyLaw Tryz.prog 33 := deep_law_laid so_laidOut (m := 2) (by omega) rowR (by kernel_rfl) wideR
set_option maxRecDepth 100000 in
theorem klP : WideMaps.KeyLaw Tryz.prog 47 := deep_law_laid so_laidOut (m := 3) (by omega) rowP (by kernel_rfl) wideP
theorem lawR : Keyed Tryz.prog 33 := Keyed.of_law klR
theorem lawP : Keyed Tryz.prog 47 := Keyed.of_law klP
theorem lawS : Keyed Tryz.prog 9 := Maps.string_keyed Tryz.underlying9
def rV (r : Rl) : Value := .agg #[.string r.1, .string r.2]
def pV (p : Pr) : Value := .agg #[.string p.1.1, .string p.1.2, .string p.2]
def ks (s : ByteArray) : Lit := .string s.data.toList
def kr (r : Rl) : Lit := .string (keyBytes [.string r.1.data.toList, .string r.2.data.toList])
def kp (p : Pr) : Lit := .string (keyBytes [.string p.1.1.data.toList, .string p.1.2.data.toList, .string p.2.data.toList])
theorem keyS {s : ByteArray} (h : s.size ≤ maxLen) : keyOf Tryz.prog 9 (.string s) = some (ks s) := WideMaps.keyOf_string_mk Tryz.underlying9 h
section
variable {P : Program} {T S R : TypeId}
theorem kl_S (hS : P.underlying S = some .string) (d : Nat) {a : ByteArray} (h : a.size ≤ maxLen) : P.keyLits (d + 1) S [.string a] = some [.string a.data.toList] := by
  unfold Program.keyLits
  rw [hS]
  exact if_pos h
theorem kl_2 {n0 n1 : String} {x0 x1 : Nat} {g0 g1 : Bool} {t0 t1 k0 k1 : String} (hu : P.underlying T = some (.struct #[⟨n0, S, 0, g0, t0, k0, x0⟩, ⟨n1, S, 1, g1, t1, k1, x1⟩])) (hS : P.underlying S = some .string) (e0 : (n0 != "_") = true) (e1 : (n1 != "_") = true)
    (hc : P.cellsOf T = 2) (hs : P.cellsOf S = 1) (d : Nat) {a b : ByteArray} (h1 : a.size ≤ maxLen) (h2 : b.size ≤ maxLen) :
    P.keyLits (d + 2) T [.string a, .string b] = some [.string a.data.toList, .string b.data.toList] := by
  unfold Program.keyLits
  rw [hu]
  simp only [List.length_cons, List.length_nil, hc, List.mapM_cons, List.mapM_nil, hs, List.drop_zero, List.take_succ_cons, List.take_zero, List.drop_succ_cons, kl_S hS d h1, kl_S hS d h2]
  simp
  exact ⟨bne_iff_ne.1 e0, bne_iff_ne.1 e1⟩
theorem key2 {n0 n1 : String} {x0 x1 : Nat} {g0 g1 : Bool} {t0 t1 k0 k1 : String} (hu : P.underlying T = some (.struct #[⟨n0, S, 0, g0, t0, k0, x0⟩, ⟨n1, S, 1, g1, t1, k1, x1⟩])) (hS : P.underlying S = some .string) (e0 : (n0 != "_") = true) (e1 : (n1 != "_") = true)
    (hk : P.keyType T = true) (hc : P.cellsOf T = 2) (hs : P.cellsOf S = 1) {n : Nat} (hn : P.types.size = n + 8) {a b : ByteArray} (h1 : a.size ≤ maxLen) (h2 : b.size ≤ maxLen) :
    keyOf P T (.agg #[.string a, .string b]) = some (.string (keyBytes [.string a.data.toList, .string b.data.toList])) := by
  have hf : (Value.agg #[.string a, .string b]).formed P T = true := by unfold Value.formed; rw [hu]; simp only; rw [hc]; rfl
  unfold keyOf
  rw [hu]
  simp only [hk, hf, Bool.and_self, if_true]
  show (P.keyLits (P.types.size + 1) T [.string a, .string b]).map _ = _
  rw [hn, show n + 8 + 1 = (n + 7) + 2 by omega, kl_2 hu hS e0 e1 hc hs _ h1 h2]
  rfl
theorem key3 {m0 m1 n0 n1 : String} {x0 x1 y0 y1 : Nat} {g0 g1 i0 i1 : Bool} {t0 t1 k0 k1 u0 u1 j0 j1 : String} (hu : P.underlying T = some (.struct #[⟨m0, R, 0, i0, u0, j0, y0⟩, ⟨m1, S, 2, i1, u1, j1, y1⟩]))
    (hr : P.underlying R = some (.struct #[⟨n0, S, 0, g0, t0, k0, x0⟩, ⟨n1, S, 1, g1, t1, k1, x1⟩])) (hS : P.underlying S = some .string) (e0 : (n0 != "_") = true) (e1 : (n1 != "_") = true) (d0 : (m0 != "_") = true) (d1 : (m1 != "_") = true)
    (hk : P.keyType T = true) (hc : P.cellsOf T = 3) (hcr : P.cellsOf R = 2) (hs : P.cellsOf S = 1) {n : Nat} (hn : P.types.size = n + 8) {a b c : ByteArray} (h1 : a.size ≤ maxLen) (h2 : b.size ≤ maxLen) (h3 : c.size ≤ maxLen) :
    keyOf P T (.agg #[.string a, .string b, .string c]) = some (.string (keyBytes [.string a.data.toList, .string b.data.toList, .string c.data.toList])) := by
  have hf : (Value.agg #[.string a, .string b, .string c]).formed P T = true := by unfold Value.formed; rw [hu]; simp only; rw [hc]; rfl
  unfold keyOf
  rw [hu]
  simp only [hk, hf, Bool.and_self, if_true]
  show (P.keyLits (P.types.size + 1) T [.string a, .string b, .string c]).map _ = _
  rw [hn]
  unfold Program.keyLits
  rw [hu]
  simp only [List.length_cons, List.length_nil, hc, List.mapM_cons, List.mapM_nil, hs, hcr, List.drop_zero, List.take_succ_cons, List.take_zero, List.drop_succ_cons, kl_2 hr hS e0 e1 hcr hs (n + 6) h1 h2, kl_S hS (n + 7) h3]
  simp
  exact ⟨bne_iff_ne.1 d0, bne_iff_ne.1 d1⟩
end
def okB (s : ByteArray) : Prop := s.size ≤ maxLen
def okR (r : Rl) : Prop := okB r.1 ∧ okB r.2
def okP (p : Pr) : Prop := okR p.1 ∧ okB p.2
theorem keyR {r : Rl} (h : okR r) : keyOf Tryz.prog 33 (rV r) = some (kr r) := by
  obtain ⟨n, hn⟩ := so_types
  exact key2 Tryz.underlying33 Tryz.underlying9 rfl rfl (by kernel_rfl) (by kernel_rfl) (by kernel_rfl) hn h.1 h.2
theorem keyP {p : Pr} (h : okP p) : keyOf Tryz.prog 47 (pV p) = some (kp p) := by
  obtain ⟨n, hn⟩ := so_types
  exact key3 Tryz.underlying47 Tryz.underlying33 Tryz.underlying9 rfl rfl rfl rfl (by kernel_rfl) (by kernel_rfl) (by kernel_rfl) (by kernel_rfl) hn h.1.1 h.1.2 h.2
theorem ks_inj (a b : ByteArray) (_ : okB a) (_ : okB b) (e : ks a = ks b) : a = b := by
  unfold ks at e
  injection e with e
  exact ba_eq e
theorem kr_inj (a b : Rl) (ha : okR a) (hb : okR b) (e : kr a = kr b) : a = b := by
  have := lawR.inj (keyR ha) (e ▸ keyR hb)
  obtain ⟨a1, a2⟩ := a
  obtain ⟨b1, b2⟩ := b
  simp [rV] at this
  rw [this.1, this.2]
theorem kp_inj (a b : Pr) (ha : okP a) (hb : okP b) (e : kp a = kp b) : a = b := by
  have := lawP.inj (keyP ha) (e ▸ keyP hb)
  obtain ⟨⟨a1, a2⟩, a3⟩ := a
  obtain ⟨⟨b1, b2⟩, b3⟩ := b
  simp [pV] at this
  rw [this.1, this.2.1, this.2.2]
/-- The pairs that are known. -/
def Knw (w : World) (b : Nat) (col : Col) (kn : List Pr) : Prop :=
  ∃ D : DataW Unit, w.ownsMap Tryz.prog 47 unitElem b kn.length D ∧ (∀ p, okP p → Maps.has D (kp p) = decide (p ∈ kn)) ∧ (∀ z, Maps.has D z = true → ∃ p ∈ kn, z = kp p) ∧ col b = some (5, .nil)
structure Sz (s : St) : Prop where
  giv : ∀ x r, r ∈ s.giv x → okR r
  inc : ∀ x r, r ∈ s.inc x → okR r
  bth : ∀ x b, b ∈ s.bth x → okR b.1 ∧ okR b.2
  lnk : ∀ x k, k ∈ s.lnk x → okB k.1 ∧ okR k.2
  kn : ∀ p ∈ s.kn, okP p
  fr : ∀ p ∈ s.fr, okP p
structure Sol (w : World) (B sb b0 b1 b2 b3 b4 : Nat) (vF : Value) (col : Col) (s : St) : Prop where
  row : w.heap[sb]? = some (.cells #[.map (some b0), .map (some b1), .map (some b2), .map (some b3), .map (some b4), vF] 56 (0, 0))
  csb : col sb = some (0, .nil)
  giv : Grp Tryz.prog encR 9 33 ks okB 1 B s.ic b0 w col s.giv
  inc : Grp Tryz.prog encR 33 33 kr okR 2 B s.ic b1 w col s.inc
  bth : Grp Tryz.prog encB 33 90 kr okR 3 B s.ic b2 w col s.bth
  lnk : Grp Tryz.prog encK 33 87 kr okR 4 B s.ic b3 w col s.lnk
  kn : Knw w b4 col s.kn
  fr : Own (E := encP) w B 47 vF s.fr
  cfr : ∀ g, vF.ownBlock = some g → col g = some (6, .nil)
  low : ∀ g, g < B → col g = none
  base : B ≤ w.heap.size
  dom : ∀ g c, col g = some c → g < w.heap.size
  sz : Sz s
section
variable {w w' : World} {B sb b0 b1 b2 b3 b4 : Nat} {vF : Value} {col col' : Col} {s : St}
theorem Knw.frame {b : Nat} {kn : List Pr} (h : Knw w b col kn) (hb : ∀ g, col g = some (5, .nil) → w'.heap[g]? = w.heap[g]?) (hcol : ∀ g, g < w.heap.size → col' g = col g) : Knw w' b col' kn := by
  obtain ⟨D, h1, h2, h3, h4⟩ := h
  have hl := h1.lt
  obtain ⟨es, clock, g1, F, g2, g3⟩ := h1
  exact ⟨D, ⟨es, clock, (hb b h4).trans g1, F, g2, g3⟩, h2, h3, (hcol b hl).trans h4⟩
/-- A world in which nothing of the solver's has turned. -/
theorem Sol.frame (h : Sol w B sb b0 b1 b2 b3 b4 vF col s) (hs : w.heap.size ≤ w'.heap.size) (hb : ∀ g c, col g = some c → w'.heap[g]? = w.heap[g]?) : Sol w' B sb b0 b1 b2 b3 b4 vF col s :=
  ⟨(hb sb _ h.csb).trans h.row, h.csb, h.giv.frame (fun g c hc _ => hb g c hc) (fun _ _ => rfl) (Nat.le_refl _), h.inc.frame (fun g c hc _ => hb g c hc) (fun _ _ => rfl) (Nat.le_refl _),
    h.bth.frame (fun g c hc _ => hb g c hc) (fun _ _ => rfl) (Nat.le_refl _), h.lnk.frame (fun g c hc _ => hb g c hc) (fun _ _ => rfl) (Nat.le_refl _), h.kn.frame (fun g hc => hb g _ hc) (fun _ _ => rfl),
    h.fr.kept (fun g hg => hb g _ (h.cfr g hg)), h.cfr, h.low, Nat.le_trans h.base hs, fun g c e => Nat.lt_of_lt_of_le (h.dom g c e) hs, h.sz⟩
theorem Sol.below (h : Sol w B sb b0 b1 b2 b3 b4 vF col s) (hb : Below w.heap.size w w') : Sol w' B sb b0 b1 b2 b3 b4 vF col s :=
  h.frame hb.size fun g c e => hb.block g (h.dom g c e)
theorem Sol.cell (h : Sol w B sb b0 b1 b2 b3 b4 vF col s) : w.cell? ⟨sb, 0, none⟩ = some (.map (some b0)) ∧ w.cell? ⟨sb, 1, none⟩ = some (.map (some b1)) ∧ w.cell? ⟨sb, 2, none⟩ = some (.map (some b2)) ∧ w.cell? ⟨sb, 3, none⟩ = some (.map (some b3)) ∧
    w.cell? ⟨sb, 4, none⟩ = some (.map (some b4)) ∧ w.cell? ⟨sb, 5, none⟩ = some vF :=
  ⟨by rw [cell_of_row w sb 0 _ _ (0, 0) h.row]; rfl, by rw [cell_of_row w sb 1 _ _ (0, 0) h.row]; rfl, by rw [cell_of_row w sb 2 _ _ (0, 0) h.row]; rfl, by rw [cell_of_row w sb 3 _ _ (0, 0) h.row]; rfl, by rw [cell_of_row w sb 4 _ _ (0, 0) h.row]; rfl,
    by rw [cell_of_row w sb 5 _ _ (0, 0) h.row]; rfl⟩
theorem Sol.frz (h : Sol w B sb b0 b1 b2 b3 b4 vF col s) (k : Nat) : w.frozen? ⟨sb, k, none⟩ = false := frozen_of_row w sb k _ _ h.row
end
end Go.Proofs.YtghejdlijcmbbaaGreatDoor.Sh
