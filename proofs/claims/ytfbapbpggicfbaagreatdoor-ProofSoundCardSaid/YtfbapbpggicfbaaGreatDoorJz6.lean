/-
  What taking the credentials in leaves; what the two spreadings come to. Pure.
-/
import Derived.Test.YtfbapbpggicfbaaGreatDoorJz5
import Derived.Test.YtfbapbpggicfbaaGreatDoorJz3
set_option linter.unusedVariables false
set_option linter.unusedSimpArgs false
namespace Go.Proofs.YtfbapbpggicfbaaGreatDoor.Sh
open Go Go.RowKit

/-- What a list of credentials has laid. -/
structure Took (l : List Crd) (s : St) : Prop where
  giv : ∀ x r, r ∈ s.giv x ↔ ∃ c ∈ l, c.kd = 1 ∧ c.wh = x ∧ roleOf c = r
  inc : ∀ x r, r ∈ s.inc x ↔ ∃ c ∈ l, c.kd = 2 ∧ (c.ao, c.an) = x ∧ roleOf c = r
  lnk : ∀ x k, k ∈ s.lnk x ↔ ∃ c ∈ l, c.kd = 3 ∧ firstOf c = x ∧ (c.bn, roleOf c) = k
  bth : ∀ x b, b ∈ s.bth x ↔ ∃ c ∈ l, c.kd = 4 ∧ (((c.ao, c.an) = x ∧ ((c.bo, c.bn), roleOf c) = b) ∨ ((c.bo, c.bn) = x ∧ ((c.ao, c.an), roleOf c) = b))
  kn : s.kn = []
  fr : s.fr = []
  ic : s.ic ≤ 2 * l.length
  keys : ∀ x, x ∈ s.keys ↔ s.giv x ≠ []
  knd : s.keys.Nodup
  llen : ∀ x, (s.lnk x).length ≤ l.length
def tookOf (l : List Crd) : St := l.foldl St.take St.zero
theorem tookOf_snoc (l : List Crd) (c : Crd) : tookOf (l ++ [c]) = (tookOf l).take c := by simp [tookOf]
theorem or_one {α : Type} {c : α} {l : List α} {P : α → Prop} : (∃ x ∈ l ++ [c], P x) ↔ (∃ x ∈ l, P x) ∨ P c := by
  constructor
  · rintro ⟨x, hx, hp⟩
    rcases List.mem_append.1 hx with h | h
    · exact .inl ⟨x, h, hp⟩
    · simp at h; subst h; exact .inr hp
  · rintro (⟨x, hx, hp⟩ | hp)
    · exact ⟨x, by simp [hx], hp⟩
    · exact ⟨c, by simp, hp⟩
theorem took_zero : Took [] St.zero := ⟨by simp [St.zero], by simp [St.zero], by simp [St.zero], by simp [St.zero], rfl, rfl, by simp [St.zero], by simp [St.zero], by simp [St.zero], by simp [St.zero]⟩
theorem upd_ne {κ α : Type} [DecidableEq κ] (f : κ → List α) (j k : κ) (x : α) : upd f k x j ≠ [] ↔ f j ≠ [] ∨ j = k := by
  unfold upd
  split
  · rename_i h; simp [h]
  · rename_i h; simp [h]
theorem upd_len {κ α : Type} [DecidableEq κ] (f : κ → List α) (j k : κ) (x : α) {n : Nat} (h : (f j).length ≤ n) : (upd f k x j).length ≤ n + 1 := by
  unfold upd
  split
  · rw [List.length_append, List.length_singleton]; omega
  · omega
theorem Took.step {l : List Crd} {s : St} (h : Took l s) (c : Crd) : Took (l ++ [c]) (s.take c) := by
  have hl : (l ++ [c]).length = l.length + 1 := by simp
  unfold St.take
  split
  · rename_i h1
    refine ⟨?_, ?_, ?_, ?_, h.kn, h.fr, ?_, ?_, ?_, ?_⟩
    · intro x r
      show r ∈ upd s.giv c.wh (roleOf c) x ↔ _
      rw [upd_mem, or_one, h.giv]
      exact or_congr Iff.rfl ⟨fun ⟨a, b⟩ => ⟨h1, a.symm, b.symm⟩, fun ⟨_, a, b⟩ => ⟨a.symm, b.symm⟩⟩
    · intro x r
      show r ∈ s.inc x ↔ _
      rw [or_one, h.inc]
      exact ⟨.inl, fun h' => h'.resolve_right fun ⟨a, _⟩ => by omega⟩
    · intro x r
      show r ∈ s.lnk x ↔ _
      rw [or_one, h.lnk]
      exact ⟨.inl, fun h' => h'.resolve_right fun ⟨a, _⟩ => by omega⟩
    · intro x r
      show r ∈ s.bth x ↔ _
      rw [or_one, h.bth]
      exact ⟨.inl, fun h' => h'.resolve_right fun ⟨a, _⟩ => by omega⟩
    · show s.ic + 1 ≤ _; have := h.ic; omega
    · intro x
      show x ∈ (if c.wh ∈ s.keys then s.keys else s.keys ++ [c.wh]) ↔ upd s.giv c.wh (roleOf c) x ≠ []
      rw [upd_ne, ← h.keys]
      split
      · rename_i hk
        exact ⟨.inl, fun h' => h'.elim id fun e => e ▸ hk⟩
      · simp
    · show (if c.wh ∈ s.keys then s.keys else s.keys ++ [c.wh]).Nodup
      split
      · exact h.knd
      · rename_i hk
        exact List.nodup_append.2 ⟨h.knd, by simp, fun a ha b hb e => by simp at hb; subst hb; exact hk (e ▸ ha)⟩
    · intro x; show (s.lnk x).length ≤ _; have := h.llen x; omega
  rename_i h1
  split
  · rename_i h2
    refine ⟨?_, ?_, ?_, ?_, h.kn, h.fr, ?_, h.keys, h.knd, ?_⟩
    · intro x r
      show r ∈ s.giv x ↔ _
      rw [or_one, h.giv]
      exact ⟨.inl, fun h' => h'.resolve_right fun ⟨a, _⟩ => by omega⟩
    · intro x r
      show r ∈ upd s.inc (c.ao, c.an) (roleOf c) x ↔ _
      rw [upd_mem, or_one, h.inc]
      exact or_congr Iff.rfl ⟨fun ⟨a, b⟩ => ⟨h2, a.symm, b.symm⟩, fun ⟨_, a, b⟩ => ⟨a.symm, b.symm⟩⟩
    · intro x r
      show r ∈ s.lnk x ↔ _
      rw [or_one, h.lnk]
      exact ⟨.inl, fun h' => h'.resolve_right fun ⟨a, _⟩ => by omega⟩
    · intro x r
      show r ∈ s.bth x ↔ _
      rw [or_one, h.bth]
      exact ⟨.inl, fun h' => h'.resolve_right fun ⟨a, _⟩ => by omega⟩
    · show s.ic + 1 ≤ _; have := h.ic; omega
    · intro x; show (s.lnk x).length ≤ _; have := h.llen x; omega
  rename_i h2
  split
  · rename_i h3
    refine ⟨?_, ?_, ?_, ?_, h.kn, h.fr, ?_, h.keys, h.knd, ?_⟩
    · intro x r
      show r ∈ s.giv x ↔ _
      rw [or_one, h.giv]
      exact ⟨.inl, fun h' => h'.resolve_right fun ⟨a, _⟩ => by omega⟩
    · intro x r
      show r ∈ s.inc x ↔ _
      rw [or_one, h.inc]
      exact ⟨.inl, fun h' => h'.resolve_right fun ⟨a, _⟩ => by omega⟩
    · intro x r
      show r ∈ upd s.lnk (firstOf c) (c.bn, roleOf c) x ↔ _
      rw [upd_mem, or_one, h.lnk]
      exact or_congr Iff.rfl ⟨fun ⟨a, b⟩ => ⟨h3, a.symm, b.symm⟩, fun ⟨_, a, b⟩ => ⟨a.symm, b.symm⟩⟩
    · intro x r
      show r ∈ s.bth x ↔ _
      rw [or_one, h.bth]
      exact ⟨.inl, fun h' => h'.resolve_right fun ⟨a, _⟩ => by omega⟩
    · show s.ic + 1 ≤ _; have := h.ic; omega
    · intro x; rw [hl]; exact upd_len _ _ _ _ (h.llen x)
  rename_i h3
  split
  · rename_i h4
    refine ⟨?_, ?_, ?_, ?_, h.kn, h.fr, ?_, h.keys, h.knd, ?_⟩
    · intro x r
      show r ∈ s.giv x ↔ _
      rw [or_one, h.giv]
      exact ⟨.inl, fun h' => h'.resolve_right fun ⟨a, _⟩ => by omega⟩
    · intro x r
      show r ∈ s.inc x ↔ _
      rw [or_one, h.inc]
      exact ⟨.inl, fun h' => h'.resolve_right fun ⟨a, _⟩ => by omega⟩
    · intro x r
      show r ∈ s.lnk x ↔ _
      rw [or_one, h.lnk]
      exact ⟨.inl, fun h' => h'.resolve_right fun ⟨a, _⟩ => by omega⟩
    · intro x r
      show r ∈ upd (upd s.bth (c.ao, c.an) ((c.bo, c.bn), roleOf c)) (c.bo, c.bn) ((c.ao, c.an), roleOf c) x ↔ _
      rw [upd_mem, upd_mem, or_one, h.bth, or_assoc]
      refine or_congr Iff.rfl ⟨?_, ?_⟩
      · rintro (⟨a, b⟩ | ⟨a, b⟩)
        · exact ⟨h4, .inl ⟨a.symm, b.symm⟩⟩
        · exact ⟨h4, .inr ⟨a.symm, b.symm⟩⟩
      · rintro ⟨_, ⟨a, b⟩ | ⟨a, b⟩⟩
        · exact .inl ⟨a.symm, b.symm⟩
        · exact .inr ⟨a.symm, b.symm⟩
    · show s.ic + 1 + 1 ≤ _; have := h.ic; omega
    · intro x; show (s.lnk x).length ≤ _; have := h.llen x; omega
  rename_i h4
  refine ⟨?_, ?_, ?_, ?_, h.kn, h.fr, by have := h.ic; omega, h.keys, h.knd, fun x => by have := h.llen x; omega⟩
  · intro x r
    rw [or_one, h.giv]
    exact ⟨.inl, fun h' => h'.resolve_right fun ⟨a, _⟩ => by omega⟩
  · intro x r
    rw [or_one, h.inc]
    exact ⟨.inl, fun h' => h'.resolve_right fun ⟨a, _⟩ => by omega⟩
  · intro x r
    rw [or_one, h.lnk]
    exact ⟨.inl, fun h' => h'.resolve_right fun ⟨a, _⟩ => by omega⟩
  · intro x r
    rw [or_one, h.bth]
    exact ⟨.inl, fun h' => h'.resolve_right fun ⟨a, _⟩ => by omega⟩
theorem took_aux : ∀ (l l0 : List Crd) (s : St), Took l0 s → Took (l0 ++ l) (l.foldl St.take s)
  | [], l0, s, h => by simpa using h
  | c :: l, l0, s, h => by
    have := took_aux l (l0 ++ [c]) (s.take c) (h.step c)
    simpa using this
theorem took_all (l : List Crd) : Took l (tookOf l) := by simpa [tookOf] using took_aux l [] St.zero took_zero
/-- A state whose rules say what the credentials say, as the rules stand behind the first spreading. -/
structure Laid (l : List Crd) (s : St) : Prop where
  giv : ∀ x r, r ∈ s.giv x ↔ ∃ c ∈ l, c.kd = 1 ∧ c.wh = x ∧ roleOf c = r
  incS : ∀ r g, g ∈ s.inc r → ∀ x, Imp (· ∈ l) (r, x) → Imp (· ∈ l) (g, x)
  inc2 : ∀ c ∈ l, c.kd = 2 → roleOf c ∈ s.inc (c.ao, c.an)
  bth : ∀ x b, b ∈ s.bth x ↔ ∃ c ∈ l, c.kd = 4 ∧ (((c.ao, c.an) = x ∧ ((c.bo, c.bn), roleOf c) = b) ∨ ((c.bo, c.bn) = x ∧ ((c.ao, c.an), roleOf c) = b))
  lnk : ∀ x k, k ∈ s.lnk x ↔ ∃ c ∈ l, c.kd = 3 ∧ firstOf c = x ∧ (c.bn, roleOf c) = k
  keys : ∀ x, x ∈ s.keys ↔ s.giv x ≠ []
  knd : s.keys.Nodup
theorem Took.laid {l : List Crd} {s : St} (h : Took l s) : Laid l s where
  giv := h.giv
  incS r g hg x hx := by
    obtain ⟨c, hc, h2, e, rfl⟩ := (h.inc r g).1 hg
    exact .inc hc h2 (by rw [e]; exact hx)
  inc2 c hc h2 := (h.inc _ _).2 ⟨c, hc, h2, rfl, rfl⟩
  bth := h.bth
  lnk := h.lnk
  keys := h.keys
  knd := h.knd
theorem Laid.grew {l : List Crd} {s s' : St} (h : Laid l s) (hs : SameR s s') (hi : ∀ r g, g ∈ s.inc r → g ∈ s'.inc r) (hS : ∀ r g, g ∈ s'.inc r → ∀ x, Imp (· ∈ l) (r, x) → Imp (· ∈ l) (g, x)) : Laid l s' where
  giv := by rw [hs.giv]; exact h.giv
  incS := hS
  inc2 c hc h2 := hi _ _ (h.inc2 c hc h2)
  bth := by rw [hs.bth]; exact h.bth
  lnk := by rw [hs.lnk]; exact h.lnk
  keys := by rw [hs.keys, hs.giv]; exact h.keys
  knd := by rw [hs.keys]; exact h.knd
/-- Nothing known yet: each rule's part holds. -/
theorem Laid.spr {l : List Crd} {s : St} (h : Laid l s) (X : ByteArray → Prop) (EL : Pr → Prop) (hk : s.kn = []) (hf : s.fr = []) : Spr (· ∈ l) X none' none' EL s where
  nd := by rw [hk]; exact List.Pairwise.nil
  fnd := by rw [hf]; exact List.Pairwise.nil
  sub := by rw [hf]; intro p hp; cases hp
  snd := by rw [hk]; intro p hp; cases hp
  incS := h.incS
  bthS r b hb x h1 h2 := by
    obtain ⟨c, hc, h4, ⟨rfl, rfl⟩ | ⟨rfl, rfl⟩⟩ := (h.bth r b).1 hb
    · exact .bth hc h4 h1 h2
    · exact .bth hc h4 h2 h1
  lnkS r k hk y x hy h1 h2 := by
    obtain ⟨c, hc, h3, rfl, rfl⟩ := (h.lnk r k).1 hk
    exact .lnk hc h3 h1 hy h2
  dI p hp := by have := hp.1; rw [hk] at this; cases this
  dB p hp := by have := hp.1; rw [hk] at this; cases this
  bsym r b hb := by
    obtain ⟨c, hc, h4, ⟨rfl, rfl⟩ | ⟨rfl, rfl⟩⟩ := (h.bth r b).1 hb
    · exact (h.bth _ _).2 ⟨c, hc, h4, .inr ⟨rfl, rfl⟩⟩
    · exact (h.bth _ _).2 ⟨c, hc, h4, .inl ⟨rfl, rfl⟩⟩
  dL p hp := by have := hp.1; rw [hk] at this; cases this
/-- The first spreading at its end: of domains all that is said is known, and the Includes say what the Links say. -/
theorem end3 {l : List Crd} {s : St} (hL : Laid l s) (h : Spr (· ∈ l) isD none' none' none' s) (hf : s.fr = []) (hb : ∀ x, isD x → ∀ r ∈ s.giv x, (r, x) ∈ s.kn) :
    ∀ c ∈ l, c.kd = 3 → ∀ y, isD y → Imp (· ∈ l) (firstOf c, y) → roleOf c ∈ s.inc (y, c.bn) := by
  have hp : ∀ p, p ∈ s.kn → Popped s p := fun p hp => ⟨hp, by rw [hf]; exact List.not_mem_nil⟩
  have hall : ∀ p, Imp (· ∈ l) p → isD p.2 → p ∈ s.kn := by
    intro p hi
    induction hi with
    | mem hc h1 => exact fun hd => hb _ hd _ ((hL.giv _ _).2 ⟨_, hc, h1, rfl, rfl⟩)
    | inc hc h2 _ ih => exact fun hd => h.dI _ (hp _ (ih hd)) id _ (hL.inc2 _ hc h2)
    | lnk hc h3 _ hy _ ih1 ih2 =>
      intro hd
      have := h.dL _ (hp _ (ih1 hy)) id _ ((hL.lnk _ _).2 ⟨_, hc, h3, rfl, rfl⟩)
      exact h.dI _ (hp _ (ih2 hd)) id _ this
    | bth hc h4 _ _ ih1 ih2 => exact fun hd => h.dB _ (hp _ (ih1 hd)) id _ ((hL.bth _ _).2 ⟨_, hc, h4, .inl ⟨rfl, rfl⟩⟩) (hp _ (ih2 hd)) id
  intro c hc h3 y hy hi
  exact h.dL _ (hp _ (hall _ hi hy)) id _ ((hL.lnk _ _).2 ⟨c, hc, h3, rfl, rfl⟩)
/-- The second one at its end: all that is said of one name is known, and nothing else. -/
theorem end2 {l : List Crd} {s : St} {who : ByteArray} (hL : Laid l s) (hI : ∀ c ∈ l, c.kd = 3 → ∀ y, isD y → Imp (· ∈ l) (firstOf c, y) → roleOf c ∈ s.inc (y, c.bn))
    (h : Spr (· ∈ l) (· = who) none' none' (fun _ => True) s) (hf : s.fr = []) (hb : ∀ r ∈ s.giv who, (r, who) ∈ s.kn) (p : Pr) : p ∈ s.kn ↔ Imp (· ∈ l) p ∧ p.2 = who := by
  have hp : ∀ p, p ∈ s.kn → Popped s p := fun p hp => ⟨hp, by rw [hf]; exact List.not_mem_nil⟩
  suffices hs : Imp (· ∈ l) p → p.2 = who → p ∈ s.kn from ⟨fun hk => h.snd p hk, fun h' => hs h'.1 h'.2⟩
  intro hi
  induction hi with
  | mem hc h1 => intro e; cases e; exact hb _ ((hL.giv _ _).2 ⟨_, hc, h1, rfl, rfl⟩)
  | inc hc h2 _ ih => exact fun e => h.dI _ (hp _ (ih e)) id _ (hL.inc2 _ hc h2)
  | lnk hc h3 h1 hy _ _ ih2 => exact fun e => h.dI _ (hp _ (ih2 e)) id _ (hI _ hc h3 _ hy h1)
  | bth hc h4 _ _ ih1 ih2 => exact fun e => h.dB _ (hp _ (ih1 e)) id _ ((hL.bth _ _).2 ⟨_, hc, h4, .inl ⟨rfl, rfl⟩⟩) (hp _ (ih2 e)) id
/-- All pairs that there may be. -/
def uni (l : List Crd) : List Pr := (l.map roleOf).flatMap fun r => l.map fun c => (r, c.wh)
theorem uni_length (l : List Crd) : (uni l).length = l.length * l.length := by
  have : ∀ (a : List Rl), (a.flatMap fun r => l.map fun c => (r, c.wh)).length = a.length * l.length := by
    intro a
    induction a with
    | nil => simp
    | cons x t ih => simp only [List.flatMap_cons, List.length_append, List.length_map, ih, List.length_cons, Nat.add_mul, Nat.one_mul]; omega
  rw [uni, this, List.length_map]
theorem imp_uni {l : List Crd} {p : Pr} (h : Imp (· ∈ l) p) : p ∈ uni l := by
  obtain ⟨c, hc, e⟩ := imp_role h
  obtain ⟨c', hc', _, e'⟩ := imp_who h
  exact List.mem_flatMap.2 ⟨roleOf c, List.mem_map.2 ⟨c, hc, rfl⟩, List.mem_map.2 ⟨c', hc', by rw [e, e']⟩⟩
theorem nodup_length {α : Type} [DecidableEq α] : ∀ {a b : List α}, a.Nodup → (∀ x ∈ a, x ∈ b) → a.length ≤ b.length
  | [], _, _, _ => Nat.zero_le _
  | x :: t, b, hn, hs => by
    obtain ⟨h1, h2⟩ := List.nodup_cons.1 hn
    have hx := hs x (by simp)
    have := nodup_length (b := b.erase x) h2 fun y hy => (List.mem_erase_of_ne (fun e => h1 (by rw [← e]; exact hy))).2 (hs y (by simp [hy]))
    rw [List.length_erase_of_mem hx] at this
    have : 0 < b.length := List.length_pos_of_mem hx
    simp only [List.length_cons]
    omega
theorem Spr.kn_le {l : List Crd} {X : ByteArray → Prop} {EI EB EL : Pr → Prop} {s : St} (h : Spr (· ∈ l) X EI EB EL s) : s.kn.length ≤ l.length * l.length := by
  rw [← uni_length]
  exact nodup_length h.nd fun p hp => imp_uni (h.snd p hp).1
theorem Spr.fr_le {S : Crd → Prop} {X : ByteArray → Prop} {EI EB EL : Pr → Prop} {s : St} (h : Spr S X EI EB EL s) : s.fr.length ≤ s.kn.length := nodup_length h.fnd h.sub
end Go.Proofs.YtfbapbpggicfbaaGreatDoor.Sh
/-
  A role in a block of its own; results that hold a struct; worlds one after another.
-/
namespace Go.Proofs.YtfbapbpggicfbaaGreatDoor.Sh
open Go Go.RowKit

/-- A role in a block of its own. -/
def RoleAt (w : World) (g : Nat) (o n : ByteArray) : Prop := w.heap[g]? = some (.cells #[.string o, .string n] 24 (0, 0))
theorem RoleAt.new (w : World) (o n : ByteArray) : RoleAt (w.alloc (.cells #[.string o, .string n] 24)) w.heap.size o n := heap_alloc_new w _
theorem RoleAt.c0 {w : World} {g : Nat} {o n : ByteArray} (h : RoleAt w g o n) : w.cell? ⟨g, 0, none⟩ = some (.string o) := by rw [cell_of_row w g 0 _ _ (0, 0) h]; rfl
theorem RoleAt.c1 {w : World} {g : Nat} {o n : ByteArray} (h : RoleAt w g o n) : w.cell? ⟨g, 1, none⟩ = some (.string n) := by rw [cell_of_row w g 1 _ _ (0, 0) h]; rfl
theorem RoleAt.lt {w : World} {g : Nat} {o n : ByteArray} (h : RoleAt w g o n) : g < w.heap.size := (Array.getElem?_eq_some_iff.1 h).1
theorem RoleAt.below {w w' : World} {B g : Nat} {o n : ByteArray} (h : RoleAt w g o n) (hb : Below B w w') (hg : g < B) : RoleAt w' g o n := (hb.block g hg).trans h
theorem RoleAt.kept {w w' : World} {g : Nat} {o n : ByteArray} (h : RoleAt w g o n) (hb : Below w.heap.size w w') : RoleAt w' g o n := h.below hb h.lt
theorem below_box (w : World) (o n : ByteArray) : Below w.heap.size w (w.alloc (.cells #[.string o, .string n] 24)) := (Below.refl _ _).alloc (Nat.le_refl _) _
theorem results_cell_tmp {P : Program} {fn : Func} {p q : Tmp} {ty : TypeId} (h : fn.results = #[.cell p ty, .tmp q]) (tmps : Array Value) (w : World) (b o : Nat) (cs : List Value) (d : TypeDesc)
    (hp : tmps.getD p undef = .pointer (some ⟨b, o, none⟩)) (hc : w.rangeAt b o cs) (hu : P.underlying ty = some d) (hd : d.isRow = true) (hi : (P.info? ty).map (·.size) = some cs.length) :
    (results fn tmps).run P w = .ok (.tuple #[.agg cs.toArray, tmps.getD q undef]) w := by
  have hp' : tmps[p]?.getD undef = .pointer (some ⟨b, o, none⟩) := by simpa using hp
  simp [results, h, hp', asAddr, run_loadVar_mid w b o ty cs d hc hu hd hi]
/-- Two texts in a block of two cells, behind a store of both. -/
theorem pair_set {w : World} {g : Nat} {u v x y : Value} {t : TypeId} (h : w.heap[g]? = some (.cells #[u, v] t (0, 0))) : ((w.setCell ⟨g, 0, none⟩ x).setCell ⟨g, 1, none⟩ y).heap[g]? = some (.cells #[x, y] t (0, 0)) :=
  heap_setCell_same _ g 1 _ _ y (heap_setCell_same w g 0 _ _ x h)
theorem info_role : (Tryz.prog.info? 24).map (·.size) = some 2 := by kernel_rfl
theorem results_cell1 {P : Program} {fn : Func} {p : Tmp} {ty : TypeId} (h : fn.results = #[.cell p ty]) (tmps : Array Value) (w : World) (b o : Nat) (cs : List Value) (d : TypeDesc)
    (hp : tmps.getD p undef = .pointer (some ⟨b, o, none⟩)) (hc : w.rangeAt b o cs) (hu : P.underlying ty = some d) (hd : d.isRow = true) (hi : (P.info? ty).map (·.size) = some cs.length) :
    (results fn tmps).run P w = .ok (.agg cs.toArray) w := by
  have hp' : tmps[p]?.getD undef = .pointer (some ⟨b, o, none⟩) := by simpa using hp
  simp [results, h, hp', asAddr, run_loadVar_mid w b o ty cs d hc hu hd hi]
theorem kept_trans {W w' W' : World} {B : Nat} (h : Below B W w') (hB : B ≤ w'.heap.size) (bb : Below w'.heap.size w' W') : Below B W W' := h.trans (bb.mono hB)
end Go.Proofs.YtfbapbpggicfbaaGreatDoor.Sh
