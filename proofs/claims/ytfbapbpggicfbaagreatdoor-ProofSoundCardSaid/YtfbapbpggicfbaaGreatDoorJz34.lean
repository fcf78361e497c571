/-
  An entry of a map of rows, and what is laid there later; the solver behind it.
-/
import Derived.Test.YtfbapbpggicfbaaGreatDoorJz33
set_option linter.unusedVariables false
set_option linter.unusedSimpArgs false
namespace Go.Proofs.YtfbapbpggicfbaaGreatDoor.Sh
open Go Go.RowKit
open Go.Maps (Keyed)

section
variable {α κ : Type} [DecidableEq κ] {P : Program} {E : Enc α} {kT eT sT t : TypeId} {kl : κ → Lit} {ok : κ → Prop} {i B n n' b : Nat} {w w' : World} {col col' : Col} {G : κ → List α} {D : DataW Value}
theorem Grp.entry (hinj : ∀ k k', ok k → ok k' → kl k = kl k' → k = k') (h : Grp P E kT eT kl ok i B n b w col G) (K : WideMaps.KeyLaw P kT) (ht : P.underlying t = some (.map kT sT)) (hz : ∀ w, (zeroValue sT).run P w = .ok (.slice none 0 0) w) (hn : n < maxLen) {k : κ} (hok : ok k) {key : Value} (hkey : keyOf P kT key = some (kl k)) :
    ∃ v, Own (E := E) w B eT v (G k) ∧ (G k).length ≤ n ∧ (∀ g, v.ownBlock = some g → col g = some (i + 10, kl k)) ∧ ∀ W : World, W.heap[b]? = w.heap[b]? →
      ∃ (st : Int) (w1 : World), (Instr.mapEntry t (.map (some b)) key).run P W = .ok (.tuple #[v, .int .i64 st]) w1 ∧ W.grownBy w1 (some b) ∧ w1.heap.size = W.heap.size ∧
        ∀ (w2 : World) (v' : Value), w2.heap[b]? = w1.heap[b]? → ∃ w3, (Instr.entryStore t (.map (some b)) (.int .i64 st) v').run P w2 = .ok () w3 ∧ w2.grownBy w3 (some b) ∧ w3.heap.size = w2.heap.size ∧
          ∀ x, Own (E := E) w3 B eT v' (G k ++ [x]) → (∀ g, g < w.heap.size → g ≠ b → some g ≠ v.ownBlock → w3.heap[g]? = w.heap[g]?) → (v'.ownBlock = v.ownBlock ∨ ∃ g, v'.ownBlock = some g ∧ w.heap.size ≤ g) →
            Grp P E kT eT kl ok i B (n + 1) b w3 (paint col v' (i + 10, kl k)) (upd G k x) := by
  obtain ⟨D, hD⟩ := h
  obtain ⟨v, e, h1, h2, h3⟩ := hD.val k hok
  refine ⟨v, h1, h2, h3, fun W hW => ?_⟩
  obtain ⟨st, w1, r1, g1, z1, hst⟩ := map_entry (map_at hD.map hW) K ht hn hz hkey
  refine ⟨st, w1, by rw [r1, e]; rfl, g1, z1, fun w2 v' hw2 => ?_⟩
  obtain ⟨w3, r3, o3, g3, z3⟩ := hst w2 v' hw2
  exact ⟨w3, r3, g3, z3, fun x ho hf hl => hD.put hinj (Keyed.of_law K) hok hkey v e o3 ho hf hl⟩
theorem Grp.stored (hinj : ∀ k k', ok k → ok k' → kl k = kl k' → k = k') (h : Grp P E kT eT kl ok i B n b w col G) (K : Keyed P kT) (ht : P.underlying t = some (.map kT sT)) (hz : ∀ w, (zeroValue sT).run P w = .ok (.slice none 0 0) w) (hn : n < maxLen) {k : κ} (hok : ok k) {key : Value} (hkey : keyOf P kT key = some (kl k)) :
    ∃ v, Own (E := E) w B eT v (G k) ∧ (G k).length ≤ n ∧ (∀ g, v.ownBlock = some g → col g = some (i + 10, kl k)) ∧ (∀ W : World, W.heap[b]? = w.heap[b]? → (Instr.lookup t (.map (some b)) key false).run P W = .ok v W) ∧
        ∀ (w2 : World) (v' : Value), w2.heap[b]? = w.heap[b]? → ∃ w3, (Instr.mapUpdate t (.map (some b)) key v').run P w2 = .ok () w3 ∧ w2.grownBy w3 (some b) ∧
          ∀ x, Own (E := E) w3 B eT v' (G k ++ [x]) → (∀ g, g < w.heap.size → g ≠ b → some g ≠ v.ownBlock → w3.heap[g]? = w.heap[g]?) → (v'.ownBlock = v.ownBlock ∨ ∃ g, v'.ownBlock = some g ∧ w.heap.size ≤ g) →
            Grp P E kT eT kl ok i B (n + 1) b w3 (paint col v' (i + 10, kl k)) (upd G k x) := by
  have hl := fun (k : κ) (hok : ok k) (key : Value) (hkey : keyOf P kT key = some (kl k)) => h.look K ht hz hok hkey
  obtain ⟨D, hD⟩ := h
  obtain ⟨v, e, h1, h2, h3⟩ := hD.val k hok
  refine ⟨v, h1, h2, h3, fun W hW => ?_, fun w2 v' hw2 => ?_⟩
  · rcases map_cases (map_at hD.map hW) K ht (hz W) hkey false with ⟨h4, h5⟩ | ⟨u, h4, h5⟩
    · rw [h5]
      rw [h4] at e
      subst e
      rfl
    · rw [h5]
      rw [h4] at e
      subst e
      rfl
  · obtain ⟨w3, r3, o3, g3⟩ := map_store (val := v') (map_at hD.map hw2) K ht hn hkey
    exact ⟨w3, r3, g3, fun x ho hf hl => hD.put hinj K hok hkey v e o3 ho hf hl⟩
end
/-- What an addition to one of the maps of rows may turn. -/
def Mg (i j : Nat) : Prop := j = i ∨ j = i + 10
section
variable {w w' : World} {B sb b0 b1 b2 b3 b4 : Nat} {vF v v' : Value} {col : Col} {s : St} {z : Lit}
theorem Sz.addInc (h : Sz s) (r : Rl) {g : Rl} (hg : okR g) : Sz (s.addInc r g) := ⟨h.giv, fun x q hq => by
  rcases upd_mem.1 hq with hq | ⟨_, rfl⟩
  · exact h.inc x q hq
  · exact hg, h.bth, h.lnk, h.kn, h.fr⟩
theorem Sz.addGiv (h : Sz s) (x : ByteArray) {g : Rl} (hg : okR g) : Sz (s.addGiv x g) := ⟨fun x q hq => by
  rcases upd_mem.1 hq with hq | ⟨_, rfl⟩
  · exact h.giv x q hq
  · exact hg, h.inc, h.bth, h.lnk, h.kn, h.fr⟩
theorem Sz.addBth (h : Sz s) (r : Rl) {g : Rl × Rl} (hg : okR g.1 ∧ okR g.2) : Sz (s.addBth r g) := ⟨h.giv, h.inc, fun x q hq => by
  rcases upd_mem.1 hq with hq | ⟨_, rfl⟩
  · exact h.bth x q hq
  · exact hg, h.lnk, h.kn, h.fr⟩
theorem Sz.addLnk (h : Sz s) (r : Rl) {g : ByteArray × Rl} (hg : okB g.1 ∧ okR g.2) : Sz (s.addLnk r g) := ⟨h.giv, h.inc, h.bth, fun x q hq => by
  rcases upd_mem.1 hq with hq | ⟨_, rfl⟩
  · exact h.lnk x q hq
  · exact hg, h.kn, h.fr⟩
/-- What is common to the four additions. -/
theorem Sol.turned (h : Sol w B sb b0 b1 b2 b3 b4 vF col s) {i b : Nat} (hi : i = 1 ∨ i = 2 ∨ i = 3 ∨ i = 4) (hbc : col b = some (i, .nil)) (hv : ∀ g, v.ownBlock = some g → col g = some (i + 10, z)) (hb : But (fun g => g = b ∨ some g = v.ownBlock) w w')
    (hl : v'.ownBlock = v.ownBlock ∨ ∃ g, v'.ownBlock = some g ∧ w.heap.size ≤ g) (hlt : ∀ g, v'.ownBlock = some g → g < w'.heap.size) :
    (∀ g, g < w.heap.size → paint col v' (i + 10, z) g = col g) ∧ (∀ g c, col g = some c → ¬ Mg i c.1 → w'.heap[g]? = w.heap[g]?) ∧ (∀ g, g < B → paint col v' (i + 10, z) g = none) ∧ (∀ g c, paint col v' (i + 10, z) g = some c → g < w'.heap.size) ∧ Ext (Mg i) w w' col (paint col v' (i + 10, z)) := by
  have hc : ∀ g, g < w.heap.size → paint col v' (i + 10, z) g = col g := fun g hg => paint_old (fun g hg => by
    rcases hl with hl | ⟨g', e, hl⟩
    · exact .inl (hv g (hl ▸ hg))
    · rw [e] at hg; injection hg with hg; exact .inr (hg ▸ hl)) hg
  have hfar : ∀ g c, col g = some c → ¬ Mg i c.1 → w'.heap[g]? = w.heap[g]? := fun g c e hm => hb.block g (h.dom g c e) fun hx => hm (by
    rcases hx with rfl | hx
    · rw [hbc] at e; cases e; exact .inl rfl
    · rw [hv g hx.symm] at e; cases e; exact .inr rfl)
  refine ⟨hc, hfar, fun g hg => by rw [hc g (Nat.lt_of_lt_of_le hg h.base)]; exact h.low g hg, fun g c e => ?_, ⟨hb.os, hb.tape, hb.output, hb.size, fun g hg hcg => hb.block g hg fun hx => ?_, hc⟩⟩
  · unfold paint at e
    split at e
    · rename_i e1; exact hlt g e1
    · exact Nat.lt_of_lt_of_le (h.dom g c e) hb.size
  · rcases hx with rfl | hx
    · exact hcg _ hbc (.inl rfl)
    · exact hcg _ (hv g hx.symm) (.inr rfl)
theorem Sol.incd (h : Sol w B sb b0 b1 b2 b3 b4 vF col s) {r g : Rl} (hg : okR g) (hv : ∀ g, v.ownBlock = some g → col g = some (2 + 10, kr r)) (hb : But (fun g => g = b1 ∨ some g = v.ownBlock) w w')
    (hl : v'.ownBlock = v.ownBlock ∨ ∃ g, v'.ownBlock = some g ∧ w.heap.size ≤ g) (hlt : ∀ g, v'.ownBlock = some g → g < w'.heap.size)
    (hG : Grp Tryz.prog encR 24 24 kr okR 2 B (s.ic + 1) b1 w' (paint col v' (2 + 10, kr r)) (upd s.inc r g)) :
    Sol w' B sb b0 b1 b2 b3 b4 vF (paint col v' (2 + 10, kr r)) (s.addInc r g) ∧ Ext (Mg 2) w w' col (paint col v' (2 + 10, kr r)) := by
  obtain ⟨hc, hfar, hlow, hdom, hE⟩ := h.turned (i := 2) (by omega) h.b1col hv hb hl hlt
  have hF : ∀ j, j ≠ 2 → (j = 1 ∨ j = 3 ∨ j = 4) → ∀ g c, col g = some c → c.1 = j ∨ c.1 = j + 10 → w'.heap[g]? = w.heap[g]? := fun j _ hj g c e hcj => hfar g c e (by unfold Mg; omega)
  exact ⟨⟨(hfar sb _ h.csb (by unfold Mg; omega)).trans h.row, (hc _ (h.dom _ _ h.csb)).trans h.csb, h.giv.frame (hF 1 (by omega) (by omega)) hc (Nat.le_succ _), hG, h.bth.frame (hF 3 (by omega) (by omega)) hc (Nat.le_succ _), h.lnk.frame (hF 4 (by omega) (by omega)) hc (Nat.le_succ _),
    h.kn.frame (fun g e => hfar g _ e (by unfold Mg; simp)) hc, h.fr.kept (fun g e => hfar g _ (h.cfr g e) (by unfold Mg; simp)), fun g e => (hc g (h.fr.lt g e).2).trans (h.cfr g e), hlow, Nat.le_trans h.base hb.size, hdom, h.sz.addInc r hg⟩, hE⟩
theorem Sol.givd (h : Sol w B sb b0 b1 b2 b3 b4 vF col s) {r : ByteArray} {g : Rl} (hg : okR g) (hv : ∀ g, v.ownBlock = some g → col g = some (1 + 10, ks r)) (hb : But (fun g => g = b0 ∨ some g = v.ownBlock) w w')
    (hl : v'.ownBlock = v.ownBlock ∨ ∃ g, v'.ownBlock = some g ∧ w.heap.size ≤ g) (hlt : ∀ g, v'.ownBlock = some g → g < w'.heap.size)
    (hG : Grp Tryz.prog encR 9 24 ks okB 1 B (s.ic + 1) b0 w' (paint col v' (1 + 10, ks r)) (upd s.giv r g)) :
    Sol w' B sb b0 b1 b2 b3 b4 vF (paint col v' (1 + 10, ks r)) (s.addGiv r g) ∧ Ext (Mg 1) w w' col (paint col v' (1 + 10, ks r)) := by
  obtain ⟨hc, hfar, hlow, hdom, hE⟩ := h.turned (i := 1) (by omega) h.b0col hv hb hl hlt
  have hF : ∀ j, j ≠ 1 → (j = 2 ∨ j = 3 ∨ j = 4) → ∀ g c, col g = some c → c.1 = j ∨ c.1 = j + 10 → w'.heap[g]? = w.heap[g]? := fun j _ hj g c e hcj => hfar g c e (by unfold Mg; omega)
  exact ⟨⟨(hfar sb _ h.csb (by unfold Mg; omega)).trans h.row, (hc _ (h.dom _ _ h.csb)).trans h.csb, hG, h.inc.frame (hF 2 (by omega) (by omega)) hc (Nat.le_succ _), h.bth.frame (hF 3 (by omega) (by omega)) hc (Nat.le_succ _), h.lnk.frame (hF 4 (by omega) (by omega)) hc (Nat.le_succ _),
    h.kn.frame (fun g e => hfar g _ e (by unfold Mg; simp)) hc, h.fr.kept (fun g e => hfar g _ (h.cfr g e) (by unfold Mg; simp)), fun g e => (hc g (h.fr.lt g e).2).trans (h.cfr g e), hlow, Nat.le_trans h.base hb.size, hdom, h.sz.addGiv r hg⟩, hE⟩
theorem Sol.bthd (h : Sol w B sb b0 b1 b2 b3 b4 vF col s) {r : Rl} {g : Rl × Rl} (hg : okR g.1 ∧ okR g.2) (hv : ∀ g, v.ownBlock = some g → col g = some (3 + 10, kr r)) (hb : But (fun g => g = b2 ∨ some g = v.ownBlock) w w')
    (hl : v'.ownBlock = v.ownBlock ∨ ∃ g, v'.ownBlock = some g ∧ w.heap.size ≤ g) (hlt : ∀ g, v'.ownBlock = some g → g < w'.heap.size)
    (hG : Grp Tryz.prog encB 24 107 kr okR 3 B (s.ic + 1) b2 w' (paint col v' (3 + 10, kr r)) (upd s.bth r g)) :
    Sol w' B sb b0 b1 b2 b3 b4 vF (paint col v' (3 + 10, kr r)) (s.addBth r g) ∧ Ext (Mg 3) w w' col (paint col v' (3 + 10, kr r)) := by
  obtain ⟨hc, hfar, hlow, hdom, hE⟩ := h.turned (i := 3) (by omega) h.b2col hv hb hl hlt
  have hF : ∀ j, j ≠ 3 → (j = 1 ∨ j = 2 ∨ j = 4) → ∀ g c, col g = some c → c.1 = j ∨ c.1 = j + 10 → w'.heap[g]? = w.heap[g]? := fun j _ hj g c e hcj => hfar g c e (by unfold Mg; omega)
  exact ⟨⟨(hfar sb _ h.csb (by unfold Mg; omega)).trans h.row, (hc _ (h.dom _ _ h.csb)).trans h.csb, h.giv.frame (hF 1 (by omega) (by omega)) hc (Nat.le_succ _), h.inc.frame (hF 2 (by omega) (by omega)) hc (Nat.le_succ _), hG, h.lnk.frame (hF 4 (by omega) (by omega)) hc (Nat.le_succ _),
    h.kn.frame (fun g e => hfar g _ e (by unfold Mg; simp)) hc, h.fr.kept (fun g e => hfar g _ (h.cfr g e) (by unfold Mg; simp)), fun g e => (hc g (h.fr.lt g e).2).trans (h.cfr g e), hlow, Nat.le_trans h.base hb.size, hdom, h.sz.addBth r hg⟩, hE⟩
theorem Sol.lnkd (h : Sol w B sb b0 b1 b2 b3 b4 vF col s) {r : Rl} {g : ByteArray × Rl} (hg : okB g.1 ∧ okR g.2) (hv : ∀ g, v.ownBlock = some g → col g = some (4 + 10, kr r)) (hb : But (fun g => g = b3 ∨ some g = v.ownBlock) w w')
    (hl : v'.ownBlock = v.ownBlock ∨ ∃ g, v'.ownBlock = some g ∧ w.heap.size ≤ g) (hlt : ∀ g, v'.ownBlock = some g → g < w'.heap.size)
    (hG : Grp Tryz.prog encK 24 104 kr okR 4 B (s.ic + 1) b3 w' (paint col v' (4 + 10, kr r)) (upd s.lnk r g)) :
    Sol w' B sb b0 b1 b2 b3 b4 vF (paint col v' (4 + 10, kr r)) (s.addLnk r g) ∧ Ext (Mg 4) w w' col (paint col v' (4 + 10, kr r)) := by
  obtain ⟨hc, hfar, hlow, hdom, hE⟩ := h.turned (i := 4) (by omega) h.b3col hv hb hl hlt
  have hF : ∀ j, j ≠ 4 → (j = 1 ∨ j = 2 ∨ j = 3) → ∀ g c, col g = some c → c.1 = j ∨ c.1 = j + 10 → w'.heap[g]? = w.heap[g]? := fun j _ hj g c e hcj => hfar g c e (by unfold Mg; omega)
  exact ⟨⟨(hfar sb _ h.csb (by unfold Mg; omega)).trans h.row, (hc _ (h.dom _ _ h.csb)).trans h.csb, h.giv.frame (hF 1 (by omega) (by omega)) hc (Nat.le_succ _), h.inc.frame (hF 2 (by omega) (by omega)) hc (Nat.le_succ _), h.bth.frame (hF 3 (by omega) (by omega)) hc (Nat.le_succ _), hG,
    h.kn.frame (fun g e => hfar g _ e (by unfold Mg; simp)) hc, h.fr.kept (fun g e => hfar g _ (h.cfr g e) (by unfold Mg; simp)), fun g e => (hc g (h.fr.lt g e).2).trans (h.cfr g e), hlow, Nat.le_trans h.base hb.size, hdom, h.sz.addLnk r hg⟩, hE⟩
end
end Go.Proofs.YtfbapbpggicfbaaGreatDoor.Sh
/-
  Blocks that stay through a region; two ways of an append behind an entry.
-/
namespace Go.Proofs.YtfbapbpggicfbaaGreatDoor.Sh
open Go Go.RowKit
open Go.Maps (Keyed)

def Kp (gs : List Nat) (w W : World) : Prop := ∀ g ∈ gs, W.heap[g]? = w.heap[g]?
section
variable {gs : List Nat} {w W W' : World}
theorem Kp.refl (gs : List Nat) (w : World) : Kp gs w w := fun _ _ => rfl
theorem Kp.drew (h : Kp gs w W) : Kp gs w W.drew := h
theorem Kp.grown {r : Option Nat} (h : Kp gs w W) (hg : W.grownBy W' r) (hl : ∀ g ∈ gs, g < W.heap.size) (hr : ∀ g ∈ gs, some g ≠ r) : Kp gs w W' := fun g hm => (hg.block g (hl g hm) (hr g hm)).trans (h g hm)
theorem Kp.alloc (h : Kp gs w W) (hl : ∀ g ∈ gs, g < W.heap.size) (o : Obj) : Kp gs w (W.alloc o) := fun g hm => ((MapKept.heap_alloc W o).2 g (hl g hm)).trans (h g hm)
theorem Reads.grown {A : Option Addr} {us : List Value} {r : Option Nat} (h : Reads W A us) (hg : W.grownBy W' r) (hA : ∀ ad, A = some ad → ad.block < W.heap.size ∧ some ad.block ≠ r) : Reads W' A us := fun hn => by
  obtain ⟨ad, e, hc⟩ := h hn
  refine ⟨ad, e, fun j u hu => ?_⟩
  rw [← hc j u hu]
  unfold World.cell?
  rw [block_add, hg.block _ (hA ad e).1 (hA ad e).2]
end
theorem loc_of {v' v : Value} {a b : Nat} (h : v'.ownBlock = v.ownBlock ∨ v'.ownBlock = some b) (hb : a ≤ b) : v'.ownBlock = v.ownBlock ∨ ∃ g, v'.ownBlock = some g ∧ a ≤ g := by
  rcases h with h | h
  · exact .inl h
  · exact .inr ⟨b, h, hb⟩
theorem own_behind {α : Type} {E : Enc α} {B b n : Nat} {T : TypeId} {w5 w6 : World} {v' v : Value} {l : List α} (h : Own (E := E) w5 B T v' l) (hg : w5.grownBy w6 (some b)) (hl : v'.ownBlock = v.ownBlock ∨ ∃ g, v'.ownBlock = some g ∧ n ≤ g)
    (hv : ∀ g, v.ownBlock = some g → g ≠ b) (hb : b < n) : Own (E := E) w6 B T v' l :=
  h.kept fun g e => hg.block g (h.lt g e).2 (by
    simp only [ne_eq, Option.some.injEq]
    intro e'
    rcases hl with q | ⟨g', q, q'⟩
    · exact hv g (q ▸ e) e'
    · rw [e] at q
      injection q with q
      omega)
end Go.Proofs.YtfbapbpggicfbaaGreatDoor.Sh
