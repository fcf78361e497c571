/-
  A new search in memory; a round's pairs taken out of it; taking a credential in, of whatever kind.
-/
import Derived.Test.YtoajckhnneagnaaDoorJd26
import Derived.Test.YtoajckhnneagnaaDoorJd27
import Derived.Test.YtoajckhnneagnaaDoorJd28
import Derived.Test.YtoajckhnneagnaaDoorJd6
import Derived.Test.YtoajckhnneagnaaDoorJd30
import Derived.Test.YtoajckhnneagnaaDoorJd17
import Derived.Test.YtoajckhnneagnaaDoorJd29
import Derived.Deep.Cut
set_option linter.unusedVariables false
set_option linter.unusedSimpArgs false
namespace Go.Proofs.YtoajckhnneagnaaDoor.Sh
open Go Go.RowKit
open Go.Maps (Keyed)

set_option linter.unusedVariables false
set_option linter.unusedSimpArgs false
theorem ctake_any {L : Ly} {vF vL : Value} {col : Col} {x : Sx} {w : World} (h : Sea L w vF vL col x) (c : Crd) (hc : mayC c = true) (hic : x.s.ic ≤ 10000000000) (hkn : x.s.kn.length ≤ 10000000000) (hfr : x.s.fr.length ≤ 10000000000) :
    Calls Tryd.prog 44 #[.pointer (some ⟨L.sb, 0, none⟩), .agg c.cells.toArray] w fun e w' => e = .returned (.tuple #[]) ∧ ∃ vF' col', Sea L w' vF' vL col' { x with s := x.s.take L.pe c } ∧ Ext (fun _ => True) w w' col col' := by
  rcases (may_kd hc).1 with hk | hk | hk | hk
  · exact ctake1_any h c hc hk hic hkn hfr
  · exact ctake2_any h c hc hk hic hkn hfr
  · exact ctake3_any h c hc hk hic hkn hfr
  · exact ctake4_any h c hc hk hic hkn hfr
def chCol (n : Nat) : Col := fun g => if g < n then none else if g = n then some (1, .nil) else if g = n + 1 then some (2, .nil) else if g = n + 2 then some (3, .nil) else if g = n + 3 then some (5, .nil) else if g = n + 4 then some (7, .nil) else if g = n + 5 then some (0, .nil) else none
def peK (who : ByteArray) (k : Nat) : Nat → ByteArray := fun i => if i = 0 then who else if i ≤ k then domN (i - 1) else ⟨#[]⟩
theorem rowS_set (who : ByteArray) (vC vF vL : Value) (b2 b3 b4 b5 b7 j : Nat) (h1 : 1 ≤ j) (h2 : j ≤ 16) : (rowS (peK who (j - 1)) vC b2 b3 b4 b5 vF b7 vL).setIfInBounds j (.string (domN (j - 1))) = rowS (peK who j) vC b2 b3 b4 b5 vF b7 vL := by
  have : j = 1 ∨ j = 2 ∨ j = 3 ∨ j = 4 ∨ j = 5 ∨ j = 6 ∨ j = 7 ∨ j = 8 ∨ j = 9 ∨ j = 10 ∨ j = 11 ∨ j = 12 ∨ j = 13 ∨ j = 14 ∨ j = 15 ∨ j = 16 := by omega
  rcases this with rfl | rfl | rfl | rfl | rfl | rfl | rfl | rfl | rfl | rfl | rfl | rfl | rfl | rfl | rfl | rfl <;> rfl
theorem Sea.new (w : World) (B : Nat) (hB : B ≤ w.heap.size) (A : Option Addr) (cs : List Crd) (nc cc : Nat) (hl : cs.length = nc) (hc : nc ≤ cc) (hc2 : cc ≤ 9223372036854775807) (hcr : Crs w w.heap.size A cs) (hmay : ∀ c ∈ cs, mayC c = true) (P : Nat → ByteArray) (hP : ∀ i, i < 17 → okB (P i)) (w6 : World)
    (h6 : Below w.heap.size w w6) (hsz : w.heap.size + 6 ≤ w6.heap.size) (m0 : w6.heap[w.heap.size]? = some (.map #[] 0)) (m1 : w6.heap[w.heap.size + 1]? = some (.map #[] 0)) (m2 : w6.heap[w.heap.size + 2]? = some (.map #[] 0)) (m3 : w6.heap[w.heap.size + 3]? = some (.map #[] 0)) (m4 : w6.heap[w.heap.size + 4]? = some (.map #[] 0))
    (m5 : w6.heap[w.heap.size + 5]? = some (.cells (rowS P (.slice A nc cc) w.heap.size (w.heap.size + 1) (w.heap.size + 2) (w.heap.size + 3) (.slice none 0 0) (w.heap.size + 4) (.slice none 0 0)) 69 (0, 0))) :
    Sea ⟨B, w.heap.size + 5, P, A, nc, cc, cs, w.heap.size, w.heap.size + 1, w.heap.size + 2, w.heap.size + 3, w.heap.size + 4⟩ w6 (.slice none 0 0) (.slice none 0 0) (chCol w.heap.size) ⟨Se.zero, fun _ => none, 0, []⟩ := by
  obtain ⟨n, hn⟩ : ∃ n, w.heap.size = n := ⟨_, rfl⟩
  rw [hn] at hB hcr h6 hsz m0 m1 m2 m3 m4 m5 ⊢
  have c : ∀ k i, k < 6 → (k = 0 → i = 1) → (k = 1 → i = 2) → (k = 2 → i = 3) → (k = 3 → i = 5) → (k = 4 → i = 7) → (k = 5 → i = 0) → chCol n (n + k) = some (i, .nil) := fun k i hk h0 h1 h2 h3 h4 h5 => by
    have : k = 0 ∨ k = 1 ∨ k = 2 ∨ k = 3 ∨ k = 4 ∨ k = 5 := by omega
    unfold chCol
    rcases this with rfl | rfl | rfl | rfl | rfl | rfl
    · rw [if_neg (by omega), if_pos (by omega), h0 rfl]
    · rw [if_neg (by omega), if_neg (by omega), if_pos (by omega), h1 rfl]
    · rw [if_neg (by omega), if_neg (by omega), if_neg (by omega), if_pos (by omega), h2 rfl]
    · rw [if_neg (by omega), if_neg (by omega), if_neg (by omega), if_neg (by omega), if_pos (by omega), h3 rfl]
    · rw [if_neg (by omega), if_neg (by omega), if_neg (by omega), if_neg (by omega), if_neg (by omega), if_pos (by omega), h4 rfl]
    · rw [if_neg (by omega), if_neg (by omega), if_neg (by omega), if_neg (by omega), if_neg (by omega), if_neg (by omega), if_pos (by omega), h5 rfl]
  have hlow : ∀ g, g < n → chCol n g = none := fun g hg => if_pos hg
  have e0 := c 0 1 (by omega) (by omega) (by omega) (by omega) (by omega) (by omega) (by omega)
  rw [Nat.add_zero] at e0
  refine ⟨m5, c 5 0 (by omega) (by omega) (by omega) (by omega) (by omega) (by omega) (by omega), ⟨hl, hc, hc2, (hcr.below h6).more (by omega), fun ad e hpos => ?_⟩,
    grp_made _ _ _ _ _ _ _ _ _ _ _ m0 e0, grp_made _ _ _ _ _ _ _ _ _ _ _ m1 (c 1 2 (by omega) (by omega) (by omega) (by omega) (by omega) (by omega) (by omega)), grp_made _ _ _ _ _ _ _ _ _ _ _ m2 (c 2 3 (by omega) (by omega) (by omega) (by omega) (by omega) (by omega) (by omega)),
    ⟨.map [], ⟨#[], 0, m3, ⟨by simp, MapKept.stamped_empty 0, by simp⟩, Nat.le_refl _, rfl⟩, c 3 5 (by omega) (by omega) (by omega) (by omega) (by omega) (by omega) (by omega), fun q _ => rfl⟩, Own.nil _ _ _, (fun g e => by cases e),
    ⟨.map [], ⟨#[], 0, m4, ⟨by simp, MapKept.stamped_empty 0, by simp⟩, Nat.le_refl _, rfl⟩, c 4 7 (by omega) (by omega) (by omega) (by omega) (by omega) (by omega) (by omega), (fun z hz => by simp [Maps.has] at hz), fun q _ => .inl ⟨rfl, rfl⟩⟩, Own.nil _ _ _, (fun g e => by cases e),
    (fun g hg => hlow g (Nat.lt_of_lt_of_le hg hB)), (by show B ≤ w6.heap.size; omega), (fun g k e => ?_), ⟨fun _ _ h => (List.not_mem_nil h).elim, fun _ _ h => (List.not_mem_nil h).elim, fun _ _ h => (List.not_mem_nil h).elim, fun _ h => absurd rfl h, fun _ h => (List.not_mem_nil h).elim⟩, fun _ h => (List.not_mem_nil h).elim, hP⟩
  · obtain ⟨ad', e', hb, _⟩ := hcr hpos
    have e : A = some ad := e
    rw [e] at e'; cases e'
    exact hlow _ hb
  · unfold chCol at e
    by_cases h : g < n + 6
    · exact Nat.lt_of_lt_of_le h hsz
    · rw [if_neg (by omega), if_neg (by omega), if_neg (by omega), if_neg (by omega), if_neg (by omega), if_neg (by omega), if_neg (by omega)] at e
      cases e
theorem Sea.emptied {L : Ly} {vF vL : Value} {col : Col} {x : Sx} {w : World} (h : Sea L w vF vL col x) :
    ∃ col', Sea L (w.setCell ⟨L.sb, 22, none⟩ (.slice none 0 0)) (.slice none 0 0) vL col' { x with s := { x.s with fr := [] } } ∧ (∀ g, vF.ownBlock = some g → col' g = none) ∧ Own (E := encP) (w.setCell ⟨L.sb, 22, none⟩ (.slice none 0 0)) L.B 58 vF x.s.fr := by
  obtain ⟨w', hw'⟩ : ∃ w', w' = w.setCell ⟨L.sb, 22, none⟩ (.slice none 0 0) := ⟨_, rfl⟩
  obtain ⟨col', hcol⟩ : ∃ c : Col, c = fun g => if vF.ownBlock = some g then none else col g := ⟨_, rfl⟩
  have hfar : ∀ g, g ≠ L.sb → w'.heap[g]? = w.heap[g]? := fun g hg => by rw [hw']; exact Below.heap_setCell w ⟨L.sb, 22, none⟩ _ g hg
  have hs : w'.heap.size = w.heap.size := by rw [hw']; simp
  have hco : ∀ g (c : Nat × Lit), col g = some c → c.1 ≠ 6 → col' g = some c := fun g c e hc => by
    rw [hcol]
    show (if vF.ownBlock = some g then none else col g) = _
    rw [if_neg]
    · exact e
    · intro hg
      rw [h.cfr g hg] at e
      cases e; exact hc rfl
  have hno : ∀ g, col g = none → col' g = none := fun g e => by
    rw [hcol]
    show (if vF.ownBlock = some g then none else col g) = _
    split
    · rfl
    · exact e
  have hback : ∀ g c, col' g = some c → col g = some c := fun g c e => by
    rw [hcol] at e
    change (if vF.ownBlock = some g then none else col g) = _ at e
    split at e
    · cases e
    · exact e
  have hns : ∀ g (c : Nat × Lit), col g = some c → c.1 ≠ 0 → g ≠ L.sb := fun g c e hc e' => by rw [e', h.csb] at e; cases e; exact hc rfl
  have hg3 : ∀ {α κ : Type} {E : Enc α} {kT eT : TypeId} {kl : κ → Lit} {ok : κ → Prop} {i b : Nat} {G : κ → List α}, (i ≠ 0 ∧ i ≠ 6 ∧ i + 10 ≠ 6) → Grp Tryd.prog E kT eT kl ok i L.B x.s.ic b w col G → Grp Tryd.prog E kT eT kl ok i L.B x.s.ic b w' col' G := by
    rintro α κ E kT eT kl ok i b G ⟨hi, hi2, hi3⟩ ⟨D, hD⟩
    refine ⟨D, ?_⟩
    have hb := hns _ _ hD.cb hi
    refine ⟨map_at hD.map (hfar _ hb), hco _ _ hD.cb hi2, hD.keys, fun k hk => ?_⟩
    rcases hD.at' k hk with h1 | ⟨v, h1, hne, hle, h2, h4⟩
    · exact .inl h1
    · exact .inr ⟨v, h1, hne, hle, h2.kept (fun g e => hfar g (hns g _ (h4 g e) (by simp))), fun g e => hco g _ (h4 g e) hi3⟩
  rw [← hw']
  have hOF : Own (E := encP) w' L.B 58 vF x.s.fr := h.fr.kept fun g e => hfar g (hns g _ (h.cfr g e) (by simp))
  refine ⟨col', ⟨by rw [hw']; exact row22 h.row, hco _ _ h.csb (by simp), ?_, hg3 (by omega) h.giv, hg3 (by omega) h.ask, hg3 (by omega) h.lnk, ?_, Own.nil _ _ _, (fun g e => by cases e), ?_, h.la.kept (fun g e => hfar g (hns g _ (h.cla g e) (by simp))), fun g e => hco g _ (h.cla g e) (by simp),
    fun g hg => hno g (h.low g hg), by rw [hs]; exact h.base, fun g c e => by rw [hs]; exact h.dom g c (hback g c e), ⟨h.sz.giv, h.sz.ask, h.sz.lnk, h.sz.kn, fun _ h => (List.not_mem_nil h).elim⟩, h.lo, h.pe⟩, fun g e => by rw [hcol]; exact if_pos e, hOF⟩
  · obtain ⟨h1, h2, h3, h4, h5⟩ := h.cr
    refine ⟨h1, h2, h3, fun hn => ?_, fun ad e hn => hno _ (h5 ad e hn)⟩
    obtain ⟨ad, e, hb, hc⟩ := h4 hn
    refine ⟨ad, e, by rw [hs]; exact hb, fun i u hu => ?_⟩
    rw [← hc i u hu]
    unfold World.cell?
    rw [block_add, hfar _ (fun e' => by have := h5 ad e hn; rw [e', h.csb] at this; cases this)]
  · obtain ⟨D, h1, h2, h3⟩ := h.rn
    exact ⟨D, map_at h1 (hfar _ (hns _ _ h2 (by simp))), hco _ _ h2 (by simp), h3⟩
  · obtain ⟨D, h1, h2, h3, h4⟩ := h.re
    refine ⟨D, map_at h1 (hfar _ (hns _ _ h2 (by simp))), hco _ _ h2 (by simp), h3, fun q hq => ?_⟩
    rcases h4 q hq with h5 | ⟨i, ps, A, c, a1, a2, a3, a4, a5, a6⟩
    · exact .inl h5
    · refine .inr ⟨i, ps, A, c, a1, a2, fun hn => ?_, fun ad e hn => hno _ (a4 ad e hn), a5, a6⟩
      obtain ⟨ad, e, hb, hc⟩ := a3 hn
      refine ⟨ad, e, by rw [hs]; exact hb, fun j u hu => ?_⟩
      rw [← hc j u hu]
      unfold World.cell?
      rw [block_add, hfar _ (fun e' => by have := a4 ad e hn; rw [e', h.csb] at this; cases this)]
end Go.Proofs.YtoajckhnneagnaaDoor.Sh
namespace Go.Proofs.YtoajckhnneagnaaDoor.Sh
open Go Go.RowKit

set_option linter.unusedVariables false
set_option linter.unusedSimpArgs false
def tookC (pe : List ByteArray) (cs : List Crd) : Se := cs.foldl (Se.take pe) Se.zero
theorem tookC_snoc (pe : List ByteArray) (cs : List Crd) (c : Crd) : tookC pe (cs ++ [c]) = (tookC pe cs).take pe c := by unfold tookC; rw [List.foldl_append]; rfl
section
variable {pe : List ByteArray} {cs : List Crd} {s s' : Se} {n : Nat}
theorem asks_add (p : Pr) (n : Nat) (r : Rl) (h : (s.ask r).length ≤ s.ic) : ((s.add p n).ask r).length ≤ (s.add p n).ic := by rw [adds_ask, adds_ic]; exact h
theorem asks_take (c : Crd) (h : ∀ r, (s.ask r).length ≤ s.ic) (r : Rl) : ((s.take pe c).ask r).length ≤ (s.take pe c).ic := by
  have hu : ∀ (t : Se) (k : Rl), (∀ r, (t.ask r).length ≤ t.ic) → ∀ r, ((t.toAsk k c).ask r).length ≤ (t.toAsk k c).ic := fun t k ht r => by
    show (upd t.ask k c r).length ≤ t.ic + 1
    have := ht r
    rw [upd_app, List.length_append]
    split <;> simp <;> omega
  have hg : ∀ (t : Se) (k : Rl), (∀ r, (t.ask r).length ≤ t.ic) → ∀ r, ((t.toGiv k c).ask r).length ≤ (t.toGiv k c).ic := fun t k ht r => by
    show (t.ask r).length ≤ t.ic + 1
    have := ht r; omega
  unfold Se.take
  split
  · split
    · exact hg _ _ (fun r => asks_add _ _ r (h r)) r
    · exact h r
  · split
    · exact hg _ _ (hu _ _ h) r
    · split
      · exact hg _ _ (hu _ _ h) r
      · split
        · exact hg _ _ (hu _ _ (hu _ _ h)) r
        · exact hg _ _ h r
theorem tookC_ok : ∀ (cs : List Crd), (∀ c ∈ cs, 1 ≤ c.kd ∧ c.kd ≤ 4) → Tk pe cs (tookC pe cs) ∧ ∀ r, ((tookC pe cs).ask r).length ≤ (tookC pe cs).ic := by
  have key : ∀ (l done : List Crd) (s : Se), (∀ c ∈ l, 1 ≤ c.kd ∧ c.kd ≤ 4) → Tk pe done s → (∀ r, (s.ask r).length ≤ s.ic) → Tk pe (done ++ l) (l.foldl (Se.take pe) s) ∧ ∀ r, ((l.foldl (Se.take pe) s).ask r).length ≤ (l.foldl (Se.take pe) s).ic := by
    intro l
    induction l with
    | nil => intro done s _ h1 h2; exact ⟨by simpa using h1, h2⟩
    | cons c t ih =>
      intro done s hl h1 h2
      have := ih (done ++ [c]) (s.take pe c) (fun x hx => hl x (List.mem_cons_of_mem _ hx)) (h1.take (hl c (by simp))) (asks_take c h2)
      rw [List.append_assoc] at this
      exact this
  intro cs h
  have := key cs [] Se.zero h Tk.zero (fun r => Nat.le_refl _)
  rwa [List.nil_append] at this
theorem fold_ask {α : Type} (f : Se → α → Se) (hf : ∀ s a, (f s a).ask = s.ask) : ∀ (l : List α) (s : Se), (l.foldl f s).ask = s.ask
  | [], s => rfl
  | a :: l, s => (fold_ask f hf l (f s a)).trans (hf s a)
theorem openX_ask (r o : Rl) (x : ByteArray) : (Se.openX n r o s x).ask = s.ask := by
  unfold Se.openX; split
  · exact adds_ask _ _
  · rfl
theorem folO_ask (x : ByteArray) (c : Crd) : (Se.folO pe x n s c).ask = s.ask := by
  unfold Se.folO; split
  · unfold Se.opn; split
    · exact (fold_ask _ (fun s a => openX_ask _ _ a) pe _).trans rfl
    · rfl
  · split
    · exact adds_ask _ _
    · rfl
theorem follow_ask (p : Pr) : (s.follow pe n p).ask = s.ask := by
  unfold Se.follow Se.folL Se.folA
  exact (fold_ask _ (fun s r => adds_ask _ _) _ _).trans (fold_ask _ (fun s c => folO_ask _ c) _ _)
theorem gw_follows {A0 : Nat} : ∀ (l : List Pr) (s : Se), (∀ r, (s.ask r).length ≤ A0) → Gw (l.length * A0) s (l.foldl (Se.follow pe n) s)
  | [], s, _ => (Gw.refl s).more (by simp)
  | p :: l, s, h => (((gw_follow p).more (h p.1)).trans (gw_follows l (s.follow pe n p) (fun r => by rw [follow_ask]; exact h r))).more (by rw [List.length_cons, Nat.succ_mul]; omega)
theorem fold_split {α : Type} (f : Se → α → Se) (l : List α) (k : Nat) (s : Se) : (l.drop k).foldl f ((l.take k).foldl f s) = l.foldl f s := by
  rw [← List.foldl_append, List.take_append_drop]
theorem Gw.kn_le {k : Nat} (h : Gw k s s') : s.kn.length ≤ s'.kn.length ∧ s.fr.length ≤ s'.fr.length := by
  obtain ⟨⟨a, a1, a2⟩, _⟩ := h
  rw [a1, a2, List.length_append, List.length_append]; omega
theorem follow_bounds {A0 H I : Nat} (p : Pr) (ha : ∀ r, (s.ask r).length ≤ A0) (hi : s.ic ≤ I) (hf : s.fr.length ≤ s.kn.length) (hk : (s.follow pe n p).kn.length ≤ H) :
    (∀ k, (((s.ask p.1).take k).foldl (Se.folO pe p.2 n) s).ic ≤ I + A0 ∧ (((s.ask p.1).take k).foldl (Se.folO pe p.2 n) s).kn.length ≤ H ∧ (((s.ask p.1).take k).foldl (Se.folO pe p.2 n) s).fr.length ≤ H) ∧
    ∀ k, ((((s.folA pe p n).lnk p.1).take k).foldl (fun s r => s.add (r, p.2) n) (s.folA pe p n)).kn.length ≤ H ∧ ((((s.folA pe p n).lnk p.1).take k).foldl (fun s r => s.add (r, p.2) n) (s.folA pe p n)).fr.length ≤ H := by
  have hfin : (s.follow pe n p).fr.length ≤ H := Nat.le_trans ((gw_follow p).fl hf) hk
  have hA : (s.folA pe p n).kn.length ≤ H ∧ (s.folA pe p n).fr.length ≤ H := by
    have := (gw_folL (s := s.folA pe p n) (n := n) p).kn_le
    exact ⟨Nat.le_trans this.1 hk, Nat.le_trans this.2 hfin⟩
  refine ⟨fun k => ?_, fun k => ?_⟩
  · have g1 := gw_fold (Se.folO pe p.2 n) 1 (fun s c => gw_folO p.2 c) ((s.ask p.1).take k) s
    have g2 := (gw_fold (Se.folO pe p.2 n) 1 (fun s c => gw_folO p.2 c) ((s.ask p.1).drop k) (((s.ask p.1).take k).foldl (Se.folO pe p.2 n) s)).kn_le
    rw [fold_split] at g2
    have h1 := g1.ic
    have h2 : ((s.ask p.1).take k).length ≤ A0 := Nat.le_trans (by rw [List.length_take]; omega) (ha p.1)
    exact ⟨by omega, Nat.le_trans g2.1 hA.1, Nat.le_trans g2.2 hA.2⟩
  · have g2 := (gw_fold (fun s (r : Rl) => s.add (r, p.2) n) 0 (fun s r => gw_add _ _) (((s.folA pe p n).lnk p.1).drop k) ((((s.folA pe p n).lnk p.1).take k).foldl (fun s r => s.add (r, p.2) n) (s.folA pe p n))).kn_le
    rw [fold_split] at g2
    exact ⟨Nat.le_trans g2.1 hk, Nat.le_trans g2.2 hfin⟩
structure Rk (cs : List Crd) (pe : List ByteArray) (n : Nat) (s : Se) : Prop where
  rs : Rs cs pe n s
  fl : s.fr.length ≤ s.kn.length
  ask : ∀ r, (s.ask r).length ≤ 3 * cs.length
  ic : s.ic ≤ 3 * cs.length + (n - 2) * (cs.length * pe.length * (3 * cs.length))
theorem Rk.start (hk : ∀ c ∈ cs, 1 ≤ c.kd ∧ c.kd ≤ 4) : Rk cs pe 2 (tookC pe cs) := by
  obtain ⟨h1, h2⟩ := tookC_ok (pe := pe) cs hk
  exact ⟨h1.rs hk, by rw [h1.fr]; exact Nat.le_refl _, fun r => Nat.le_trans (h2 r) h1.ic, by have := h1.ic; omega⟩
noncomputable def midC (pe : List ByteArray) (n : Nat) (s : Se) (j : Nat) : Se := (s.fr.take j).foldl (Se.follow pe n) { s with fr := [] }
theorem Rk.pairs (hpe : ∀ i, i < 16 → domN i ∈ pe) (h : Rk cs pe n s) (hn : 2 ≤ n) : ∀ p ∈ s.fr, rd cs p = n - 1 ∧ rd cs p ≠ 0 ∧ p.2 ∈ pe := fun p hp => by
  have h1 := (h.rs.fr p).1 hp
  obtain ⟨a, b, c⟩ := h.rs.snd p (by omega)
  exact ⟨by omega, by omega, a⟩
theorem Rk.mid (hpe : ∀ i, i < 16 → domN i ∈ pe) (h : Rk cs pe n s) (hn : 2 ≤ n) (j : Nat) : Md cs pe n (s.fr.take j) (midC pe n s j) := by
  have := Md.all hpe (by omega : n ≠ 0) (s.fr.take j) (fun p hp => h.pairs hpe hn p (List.mem_of_mem_take hp)) [] _ (Md.start h.rs (by omega))
  rwa [List.nil_append] at this
theorem Rk.midGw (h : Rk cs pe n s) (j : Nat) : Gw (cs.length * pe.length * (3 * cs.length)) { s with fr := [] } (midC pe n s j) := by
  have h1 := gw_follows (pe := pe) (n := n) (A0 := 3 * cs.length) (s.fr.take j) { s with fr := [] } h.ask
  refine h1.more (Nat.mul_le_mul_right _ ?_)
  rw [List.length_take]
  have := h.fl
  have := h.rs.knl
  omega
theorem Rk.midAsk (h : Rk cs pe n s) (j : Nat) : ∀ r, ((midC pe n s j).ask r).length ≤ 3 * cs.length := fun r => by
  unfold midC; rw [fold_ask _ (fun s p => follow_ask p)]; exact h.ask r
theorem midC_succ {j : Nat} {p : Pr} (h : s.fr[j]? = some p) : midC pe n s (j + 1) = (midC pe n s j).follow pe n p := by
  unfold midC; rw [take_snoc_of h, List.foldl_append]; rfl
theorem Rk.next (hpe : ∀ i, i < 16 → domN i ∈ pe) (h : Rk cs pe n s) (hn : 2 ≤ n) {j : Nat} (hj : s.fr.length ≤ j) : Rk cs pe (n + 1) (midC pe n s j) := by
  have e : midC pe n s j = s.round pe n := by unfold midC Se.round; rw [List.take_of_length_le hj]
  have g := h.midGw j
  refine ⟨by rw [e]; exact h.rs.round hpe hn, g.fl (by simp), h.midAsk j, ?_⟩
  have h1 : (midC pe n s j).ic ≤ s.ic + cs.length * pe.length * (3 * cs.length) := g.ic
  have h2 := h.ic
  have h3 : n + 1 - 2 = (n - 2) + 1 := by omega
  obtain ⟨M, hM⟩ : ∃ M, cs.length * pe.length * (3 * cs.length) = M := ⟨_, rfl⟩
  rw [hM] at h1 h2 ⊢
  rw [h3, Nat.succ_mul (n - 2) M]
  have h4 := Nat.add_le_add_right h2 M
  rw [Nat.add_assoc] at h4
  exact Nat.le_trans h1 h4
theorem Rk.bounds (hpe : ∀ i, i < 16 → domN i ∈ pe) (h : Rk cs pe n s) (hn : 2 ≤ n) {j : Nat} {p : Pr} (hp : s.fr[j]? = some p) {I : Nat} (hI : s.ic + cs.length * pe.length * (3 * cs.length) + 3 * cs.length ≤ I) (hH : cs.length * pe.length ≤ I) :
    (∀ k, ((((midC pe n s j).ask p.1).take k).foldl (Se.folO pe p.2 n) (midC pe n s j)).ic ≤ I ∧ ((((midC pe n s j).ask p.1).take k).foldl (Se.folO pe p.2 n) (midC pe n s j)).kn.length ≤ I ∧ ((((midC pe n s j).ask p.1).take k).foldl (Se.folO pe p.2 n) (midC pe n s j)).fr.length ≤ I) ∧
    ∀ k, (((((midC pe n s j).folA pe p n).lnk p.1).take k).foldl (fun s r => s.add (r, p.2) n) ((midC pe n s j).folA pe p n)).kn.length ≤ I ∧ (((((midC pe n s j).folA pe p n).lnk p.1).take k).foldl (fun s r => s.add (r, p.2) n) ((midC pe n s j).folA pe p n)).fr.length ≤ I := by
  have g := h.midGw j
  have hm := (h.mid hpe hn (j + 1)).gd.knl
  rw [midC_succ hp] at hm
  have gi : (midC pe n s j).ic ≤ s.ic + cs.length * pe.length * (3 * cs.length) := g.ic
  obtain ⟨b1, b2⟩ := follow_bounds (pe := pe) (n := n) p (h.midAsk j) gi (g.fl (by simp)) hm
  exact ⟨fun k => ⟨Nat.le_trans (b1 k).1 hI, Nat.le_trans (b1 k).2.1 hH, Nat.le_trans (b1 k).2.2 hH⟩, fun k => ⟨Nat.le_trans (b2 k).1 hH, Nat.le_trans (b2 k).2 hH⟩⟩
theorem Rk.more (hpe : ∀ i, i < 16 → domN i ∈ pe) (h : Rk cs pe n s) (hf : s.fr ≠ []) (hn : 2 ≤ n) : n ≤ cs.length * pe.length + 1 := by
  cases e : s.fr with
  | nil => exact absurd e hf
  | cons p t =>
    obtain ⟨h1, h2, h3⟩ := h.pairs hpe hn p (by rw [e]; simp)
    have := rd_bound (cs := cs) hpe h3
    omega
end
end Go.Proofs.YtoajckhnneagnaaDoor.Sh
namespace Go.Proofs.YtoajckhnneagnaaDoor.Sh
open Go Go.RowKit
open Go.Maps (Keyed)

set_option linter.unusedVariables false
set_option linter.unusedSimpArgs false
set_option maxHeartbeats 8000000 in
set_option maxRecDepth 100000 in
theorem clink_any {L : Ly} {vF vL : Value} {col : Col} {x : Sx} {w : World} (h : Sea L w vF vL col x) (hP : ∀ i, i < 16 → L.P (i + 1) = domN i) (c : Crd) (hk : c.kd = 3) (hc : mayC c = true) (p : Pr) (hp : okP p) (hr : p.1 = roleOf c) (m : Nat) (hm : m ≤ 1000000000) :
    Calls Tryd.prog 86 #[.pointer (some ⟨L.sb, 0, none⟩), .agg c.cells.toArray, .agg #[.string p.1.1, .string p.1.2, .string p.2], .int .i64 (m : Int)] w fun e w' => TryP w w' (why c (x.s.lt m) p) e ∧ Below w.heap.size w w' := by
  obtain ⟨⟨o, n⟩, who⟩ := p
  have HFO : Hid (firstOf c = (o, c.an)) := hid (by unfold firstOf; unfold roleOf at hr; simp only [Prod.mk.injEq] at hr; rw [hr.1])
  have HY := hid (fun (i : Nat) (hi : i < 16) (e : x.s.lt m ((o, c.an), domN i) ∧ x.s.lt m ((domN i, c.bn), who)) (hl : ∀ j, j < i → ¬ (x.s.lt m ((o, c.an), domN j) ∧ x.s.lt m ((domN j, c.bn), who))) => show why c (x.s.lt m) ((o, n), who) = some [((o, c.an), domN i), ((domN i, c.bn), who)] from why_iff.2 ⟨hr, .inr (.inr (.inl ⟨hk, i, hi, by rw [HFO.out]; exact e.1, e.2, by rw [HFO.out]; exact hl, by rw [HFO.out]⟩))⟩)
  have HN := hid (fun (e : ∀ j, j < 16 → ¬ (x.s.lt m ((o, c.an), domN j) ∧ x.s.lt m ((domN j, c.bn), who))) => show why c (x.s.lt m) ((o, n), who) = none from why_none.2 (fun hd => by
    rcases hd.2 with h1 | h1 | h1 | h1
    · omega
    · omega
    · obtain ⟨_, y, h2, h3, h4⟩ := h1
      obtain ⟨i, hi, rfl⟩ := (isD_iff y).1 h3
      rw [HFO.out] at h2
      exact e i hi ⟨h2, h4⟩
    · omega))
  have HOO : Hid (okB o) := hid hp.1.1
  have HOD : Hid (∀ i, i < 16 → okB (domN i)) := hid (fun i hi => by rw [← hP i hi]; exact h.pe _ (by omega))
  have HDO := hid (fun W (hW : Below w.heap.size w W) i (hi : i < 16) => show W.cell? ⟨L.sb, 1 + i, none⟩ = some (.string (domN i)) by rw [← hP i hi, Nat.add_comm]; exact (h.below hW).per (by omega))
  clear HFO
  obtain ⟨ow, how⟩ : ∃ ow, why c (x.s.lt m) ((o, n), who) = ow := ⟨_, rfl⟩
  rw [how] at HY HN ⊢
  have HOC := hid (okC_of hc)
  have HOW : Hid (okB who) := hid hp.2
  have HS := hid (fun W (hW : Below w.heap.size w W) => h.below hW)
  have HM : Hid (m ≤ 1000000000) := hid hm
  obtain ⟨d, q, nm, kd, wh, ao, an, bo, bn⟩ := c
  simp only at hk
  subst hk
  obtain ⟨sb, hsb⟩ : ∃ sb, L.sb = sb := ⟨_, rfl⟩
  have HSB := hid hsb
  obtain ⟨w1, hw1⟩ : ∃ w1, w1 = w.alloc (.cells (Crd.cells ⟨d, q, nm, 3, wh, ao, an, bo, bn⟩).toArray 55) := ⟨_, rfl⟩
  obtain ⟨w3, hw3⟩ : ∃ w3, w3 = w1.alloc (.cells #[.string o, .string n, .string who] 58) := ⟨_, rfl⟩
  obtain ⟨gr, hgr⟩ : ∃ g, w.heap.size = g := ⟨_, rfl⟩
  obtain ⟨gc, hgc⟩ : ∃ g, gr + 1 = g := ⟨_, rfl⟩
  have hz1 : w1.heap.size = gc := by rw [hw1, World.size_alloc, hgr, hgc]
  have q1 : Below w.heap.size w w1 := by rw [hw1]; exact (Below.refl _ _).alloc (Nat.le_refl _) _
  have q3 : Below w1.heap.size w1 w3 := by rw [hw3]; exact (Below.refl _ _).alloc (Nat.le_refl _) _
  have r1 : CrAt w1 gr ⟨d, q, nm, 3, wh, ao, an, bo, bn⟩ := by rw [hw1, ← hgr]; exact CrAt.new w _
  have HC3 := hid (r1.kept q3)
  have HP3 : Hid (PrA w3 gc o n who) := hid (by rw [hw3, ← hz1]; exact PrA.new w1 _ _ _)
  have HQ3 : Hid (Below w.heap.size w w3) := hid (q1.trans (q3.mono q1.size))
  rw [hsb]
  clear q1 q3 r1 hr how hz1 h hc hp hm hsb
  unfold Crd.cells at hw1 ⊢
  simp only at hw1 ⊢
  rw [HSB.out] at HDO
  have HB4 := hid (HQ3.out.alloc HQ3.out.size (.cells #[.string o, .string an] 24))
  have HC4 := hid (CrAt.kept HC3.out ((Below.refl w3.heap.size w3).alloc (Nat.le_refl _) (.cells #[.string o, .string an] 24)))
  have HP4 := hid (PrA.kept HP3.out ((Below.refl w3.heap.size w3).alloc (Nat.le_refl _) (.cells #[.string o, .string an] 24)))
  have HR4 := hid (RoleAt.new w3 o an)
  go_enter Tryd.func86, Tryd.ntmps86
  go_upto_region 1 with fail
  rw [← hw1]
  try rw [hgr]
  rw [← hw3]
  try rw [hgc]
  clear hw1 hw3 hgr hgc
  obtain ⟨a0, a1, a2, a3, a4, a5, a6, a7, a8⟩ := HC3.out.all
  obtain ⟨p0, p1, p2⟩ := HP3.out.all
  go_wp2_with fail
  obtain ⟨w4, hw4⟩ : ∃ w4, w4 = w3.alloc (.cells #[.string o, .string an] 24) := ⟨_, rfl⟩
  obtain ⟨g4, hg4⟩ : ∃ g, w3.heap.size = g := ⟨_, rfl⟩
  rw [← hw4] at HB4 HC4 HP4 HR4
  rw [hg4] at HR4
  try rw [← hw4]
  try rw [hg4]
  clear hw4 hg4 a0 a1 a2 a3 a4 a5 a6 a7 a8 p0 p1 p2
  go_loopw [28] (fun i wr => ∃ k : Nat, i = .int .i64 (k : Int) ∧ k ≤ 16 ∧ Hid (∀ j, j < k → ¬ (x.s.lt m ((o, an), domN j) ∧ x.s.lt m ((domN j, bn), who))) ∧ Hid (Below w4.heap.size w4 wr)) (fun i _ => 16 - (intOf i).toNat)
  case atStart => exact ⟨0, rfl, by omega, hid (fun j hj => by omega), hid (Below.refl _ _)⟩
  case round =>
    obtain ⟨k, rfl, hk, HL, HB⟩ := hrel
    have HBW := hid (HB4.out.trans (HB.out.mono HB4.out.size))
    by_cases hlt : k < 16
    · obtain ⟨y, hy⟩ : ∃ y, domN k = y := ⟨_, rfl⟩
      have d0 := HDO.out wr HBW.out k hlt
      rw [hy] at d0
      have hk0 : (0 : Int) ≤ (k : Int) := Int.natCast_nonneg _
      have hk1 : (k : Int) < 16 := by omega
      have HC5 := hid (HC4.out.kept HB.out)
      have HP5 := hid (HP4.out.kept HB.out)
      have HR5 : Hid (RoleAt wr g4 o an) := hid ((HB.out.block _ HR4.out.lt).trans HR4.out)
      obtain ⟨w6, hw6⟩ : ∃ w6, w6 = wr.alloc (.cells #[.string y, .string bn] 24) := ⟨_, rfl⟩
      have q6 : Below wr.heap.size wr w6 := by rw [hw6]; exact (Below.refl _ _).alloc (Nat.le_refl _) _
      have HQ6 := hid q6
      have HC6 := hid (HC5.out.kept q6)
      have HP6 := hid (HP5.out.kept q6)
      have HR6 : Hid (RoleAt w6 g4 o an) := hid ((q6.block _ HR5.out.lt).trans HR5.out)
      have HS6 : Hid (RoleAt w6 wr.heap.size y bn) := hid (by rw [hw6]; exact RoleAt.new wr y bn)
      have HB6 := hid (HBW.out.trans (q6.mono HBW.out.size))
      have HB7 := hid (HB6.out.alloc HB6.out.size (.cells #[.string o, .string an, .string y, .string y, .string bn, .string who] 58))
      have HE7 := hid (els_two w6 o an y y bn who 58)
      have HKY := hid hy
      have okl : ∀ q ∈ [((o, an), y), ((y, bn), who)], okP q := fun q hq => by
        have hyy : okB y := by rw [← hy]; exact HOD.out k hlt
        simp only [List.mem_cons, List.not_mem_nil, or_false] at hq
        rcases hq with rfl | rfl
        · exact ⟨⟨HOO.out, HOC.out.2.2.2.1⟩, hyy⟩
        · exact ⟨⟨hyy, HOC.out.2.2.2.2.2⟩, HOW.out⟩
      clear hy q6
      by_cases hyes : x.s.lt m ((o, an), y) ∧ x.s.lt m ((y, bn), who)
      · have HA := hid (ahead_yes (HS.out _ HB7.out) m HM.out (some ⟨w6.heap.size, 0, none⟩) [((o, an), y), ((y, bn), who)] 2 2 rfl (by omega) HE7.out okl (fun q hq => by simp only [List.mem_cons, List.not_mem_nil, or_false] at hq; rcases hq with rfl | rfl; exact hyes.1; exact hyes.2))
        rw [HSB.out] at HA
        have HYY : Hid (ow = some [((o, an), y), ((y, bn), who)]) := hid (by rw [← HKY.out]; exact HY.out k hlt (by rw [HKY.out]; exact hyes) HL.out)
        clear hyes okl
        go_upto_region 5 with fail
        obtain ⟨a0, a1, a2, a3, a4, a5, a6, a7, a8⟩ := HC5.out.all
        clear d0
        go_upto_region 6 with fail
        rw [← hw6]
        clear hw6 a0 a1 a2 a3 a4 a5 a6 a7 a8
        obtain ⟨p0, p1, p2⟩ := HP6.out.all
        have r0 := HR6.out.c0
        have r1 := HR6.out.c1
        have s0 := HS6.out.c0
        have s1 := HS6.out.c1
        go_wp2_with (go_at_call 83; (refine HA.out.mono ?_); rintro er w8 ⟨rfl, bb⟩)
        go_ret2
        exact ⟨.inr ⟨_, 2, _, 2, HYY.out, rfl, rfl, by omega, by omega, by omega, (HE7.out.below bb).more bb.size, fun ad e _ => by cases e; exact HB6.out.size⟩, HB7.out.trans (bb.mono HB7.out.size)⟩
      · have HA := hid (ahead_no (HS.out _ HB7.out) m HM.out (some ⟨w6.heap.size, 0, none⟩) [((o, an), y), ((y, bn), who)] 2 2 rfl (by omega) HE7.out okl (fun e => hyes ⟨e _ (by simp), e _ (by simp)⟩))
        rw [HSB.out] at HA
        have HL2 : Hid (∀ j, j < k + 1 → ¬ (x.s.lt m ((o, an), domN j) ∧ x.s.lt m ((domN j, bn), who))) := hid (fun j hj => by
          rcases Nat.lt_or_ge j k with h1 | h1
          · exact HL.out j h1
          · obtain rfl : j = k := by omega
            rw [HKY.out]; exact hyes)
        clear hyes okl
        go_upto_region 5 with fail
        obtain ⟨a0, a1, a2, a3, a4, a5, a6, a7, a8⟩ := HC5.out.all
        clear d0
        go_upto_region 6 with fail
        rw [← hw6]
        clear hw6 a0 a1 a2 a3 a4 a5 a6 a7 a8
        obtain ⟨p0, p1, p2⟩ := HP6.out.all
        have r0 := HR6.out.c0
        have r1 := HR6.out.c1
        have s0 := HS6.out.c0
        have s1 := HS6.out.c1
        go_wp2_with (go_at_call 83; (refine HA.out.mono ?_); rintro er w8 ⟨rfl, bb⟩; have HB8 := hid (HB7.out.trans (bb.mono HB7.out.size)); have HBR : Hid (Below w4.heap.size w4 w8) := hid (by
          have h1 : Below w4.heap.size w4 w6 := HB.out.trans (HQ6.out.mono HB.out.size)
          have h2 := h1.alloc h1.size (.cells #[.string o, .string an, .string y, .string y, .string bn, .string who] 58)
          exact h2.trans (bb.mono h2.size)); clear bb)
        go_roundw
        case rel => exact ⟨k + 1, by go_num, by omega, HL2, HBR⟩
        case measure => simp [intOf]; omega
    · obtain rfl : k = 16 := by omega
      go_wp2_with fail
      go_ret2
      exact ⟨.inl ⟨HN.out HL.out, rfl⟩, HBW.out⟩
end Go.Proofs.YtoajckhnneagnaaDoor.Sh
