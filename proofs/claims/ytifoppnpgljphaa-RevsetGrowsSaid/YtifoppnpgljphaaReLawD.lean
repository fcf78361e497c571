/-
  The walk of RevsetJoined (the contract of lives is its premise). Written by mk_relawd.py.
-/
import Derived.Test.YtifoppnpgljphaaReLawC
import Derived.Test.YtifoppnpgljphaaReJoin
namespace Go.Proofs.Ytifoppnpgljphaa.Sh
open Go Go.RowKit

set_option linter.unusedSimpArgs false
set_option linter.unusedVariables false
def encI : Enc (Int × Int) := ⟨2, fun x => [.int .i64 x.1, .int .i64 x.2], by omega, fun _ => rfl, fun x u hu => by
  simp only [List.mem_cons, List.not_mem_nil, or_false] at hu
  rcases hu with rfl | rfl <;> rfl⟩
theorem Frs.elsQ {w : World} {B n : Nat} {A : Option Addr} {l : List Int} (h : Frs w B A n l) : ElsQ encN w (fun b => B ≤ b) A l := fun hn => by
  obtain ⟨ad, e, hb, hc⟩ := h.els1 hn
  exact ⟨ad, e, (h.lies ad e).1, hb, hc⟩
theorem FrsLL.llsQ {w : World} {B n : Nat} {A : Option Addr} {ll : List (List Int)} (h : FrsLL w B A n ll) : LlsQ w (fun b => B ≤ b) A ll := by
  rcases Nat.eq_zero_or_pos n with h0 | h0
  · have : ll = [] := List.eq_nil_of_length_eq_zero (by rw [h.len]; exact h0)
    rw [this]
    exact LlsQ.nil
  · obtain ⟨g, cs, rfl, hb, hg, hr⟩ := h.rows h0
    have hd : ∀ i : Fin ll.length, ∃ x : Hd, cs[i.1]? = some x.val ∧ (ll[i.1]).length = x.n ∧ x.n ≤ x.c ∧ x.c ≤ 9223372036854775807 ∧ Frs w B x.A x.n ll[i.1] := fun i => hr i.1 ll[i.1] (List.getElem?_eq_getElem i.2)
    refine ⟨List.ofFn fun i => (hd i).choose, by simp, fun hn => ⟨_, rfl, hb, (Array.getElem?_eq_some_iff.1 hg).1, fun i u hu => ?_⟩, fun i x l hx hl => ?_⟩
    · rw [ev_hd, List.getElem?_map] at hu
      obtain ⟨y, hy, rfl⟩ := Option.map_eq_some_iff.1 hu
      rw [List.getElem?_ofFn] at hy
      split at hy
      · rename_i hi
        injection hy with hy
        subst hy
        rw [addr_rowN, cell_of_row _ _ i _ _ (0, 0) hg]
        exact (hd ⟨i, hi⟩).choose_spec.1
      · cases hy
    · rw [List.getElem?_ofFn] at hx
      split at hx
      · rename_i hi
        injection hx with hx
        subst hx
        have hl2 : ll[i] = l := by rw [List.getElem?_eq_getElem hi] at hl; injection hl
        subst hl2
        obtain ⟨k1, k2, k3, k4, k5⟩ := (hd ⟨i, hi⟩).choose_spec
        exact ⟨k2, k3, k4, k5.elsQ⟩
      · cases hx
def P3 (ga gx gy : Nat) : Nat → Prop := fun b => b ≠ ga ∧ b ≠ gx ∧ b ≠ gy
/-- Three sets of the program's, each in blocks of its own. -/
structure ThreeX (w : World) (P Q R : Nat → Prop) (ga gx gy : Nat) (T X Y : Nat → List Int) : Prop where
  a : SetP w P ga T
  x : SetP w Q gx X
  y : SetP w R gy Y
  ax : ga ≠ gx
  ay : ga ≠ gy
  xy : gx ≠ gy
  pq : ∀ b, P b → ¬ Q b
  pr : ∀ b, P b → ¬ R b
  qr : ∀ b, Q b → ¬ R b
  px : ¬ P gx
  py : ¬ P gy
  qa : ¬ Q ga
  qy : ¬ Q gy
  ra : ¬ R ga
  rx : ¬ R gx
def Three (w : World) (B ga gx gy : Nat) (T X Y : Nat → List Int) : Prop := ∃ P Q R : Nat → Prop, ThreeX w P Q R ga gx gy T X Y ∧ ∀ b, P b ∨ Q b ∨ R b → B ≤ b ∧ b < w.heap.size
section
variable {w w' : World} {P Q R : Nat → Prop} {B ga gx gy : Nat} {T X Y Z : Nat → List Int}
theorem ThreeX.swap (h : ThreeX w P Q R ga gx gy T X Y) : ThreeX w Q P R gx ga gy X T Y :=
  ⟨h.x, h.a, h.y, fun e => h.ax e.symm, h.xy, h.ay, fun b h1 h2 => h.pq b h2 h1, h.qr, h.pr, h.qa, h.qy, h.px, h.py, h.rx, h.ra⟩
theorem ThreeX.last (h : ThreeX w P Q R ga gx gy T X Y) : ThreeX w R Q P gy gx ga Y X T :=
  ⟨h.y, h.x, h.a, fun e => h.xy e.symm, fun e => h.ay e.symm, fun e => h.ax e.symm, fun b h1 h2 => h.qr b h2 h1, fun b h1 h2 => h.pr b h2 h1, fun b h1 h2 => h.pq b h2 h1, h.rx, h.ra, h.qy, h.qa, h.py, h.px⟩
theorem ThreeX.turn (h : ThreeX w P Q R ga gx gy T X Y) (hb : ∀ b, P b ∨ Q b ∨ R b → b < w.heap.size) (hs : SetP w' (upTo P w.heap.size w'.heap.size) ga Z) (hg : Grew w w' (fun b => b = ga ∨ P b)) : ThreeX w' (upTo P w.heap.size w'.heap.size) Q R ga gx gy Z X Y := by
  have h1 := h.x.lt
  have h2 := h.y.lt
  refine ⟨hs, h.x.grew hg (fun b hb => ?_), h.y.grew hg (fun b hb => ?_), h.ax, h.ay, h.xy, fun b hp hq => ?_, fun b hp hr => ?_, h.qr, fun hp => ?_, fun hp => ?_, h.qa, h.qy, h.ra, h.rx⟩
  · rcases hb with e | hp
    · subst e; exact ⟨h.qa, h.ax⟩
    · exact ⟨h.pq b hp, fun e => h.px (e ▸ hp)⟩
  · rcases hb with e | hp
    · subst e; exact ⟨h.ra, h.ay⟩
    · exact ⟨h.pr b hp, fun e => h.py (e ▸ hp)⟩
  · rcases hp with ⟨hp, _⟩ | ⟨hp, _⟩
    · exact h.pq b hp hq
    · have := hb b (.inr (.inl hq)); omega
  · rcases hp with ⟨hp, _⟩ | ⟨hp, _⟩
    · exact h.pr b hp hr
    · have := hb b (.inr (.inr hr)); omega
  · rcases hp with ⟨hp, _⟩ | ⟨hp, _⟩
    · exact h.px hp
    · omega
  · rcases hp with ⟨hp, _⟩ | ⟨hp, _⟩
    · exact h.py hp
    · omega
theorem Three.swap (h : Three w B ga gx gy T X Y) : Three w B gx ga gy X T Y := by
  obtain ⟨P, Q, R, h1, h2⟩ := h
  exact ⟨Q, P, R, h1.swap, fun b hb => h2 b (hb.elim (fun h => .inr (.inl h)) (fun h => h.elim .inl (fun h => .inr (.inr h))))⟩
theorem Three.last (h : Three w B ga gx gy T X Y) : Three w B gy gx ga Y X T := by
  obtain ⟨P, Q, R, h1, h2⟩ := h
  exact ⟨R, Q, P, h1.last, fun b hb => h2 b (hb.elim (fun h => .inr (.inr h)) (fun h => h.elim (fun h => .inr (.inl h)) .inl))⟩
theorem Three.below (h : Three w B ga gx gy T X Y) (hb : Below w.heap.size w w') : Three w' B ga gx gy T X Y := by
  obtain ⟨P, Q, R, h1, h2⟩ := h
  exact ⟨P, Q, R, ⟨h1.a.below hb, h1.x.below hb, h1.y.below hb, h1.ax, h1.ay, h1.xy, h1.pq, h1.pr, h1.qr, h1.px, h1.py, h1.qa, h1.qy, h1.ra, h1.rx⟩, fun b hp => ⟨(h2 b hp).1, Nat.lt_of_lt_of_le (h2 b hp).2 hb.size⟩⟩
theorem Three.a (h : Three w B ga gx gy T X Y) : SetP w (P3 ga gx gy) ga T := by
  obtain ⟨P, Q, R, h1, h2⟩ := h
  exact h1.a.imp (fun b hp _ => ⟨fun e => h1.a.ng (e ▸ hp), fun e => h1.px (e ▸ hp), fun e => h1.py (e ▸ hp)⟩) (fun h => h.1 rfl)
theorem Three.x (h : Three w B ga gx gy T X Y) : SetP w (P3 ga gx gy) gx X := by
  obtain ⟨P, Q, R, h1, h2⟩ := h
  exact h1.x.imp (fun b hp _ => ⟨fun e => h1.qa (e ▸ hp), fun e => h1.x.ng (e ▸ hp), fun e => h1.qy (e ▸ hp)⟩) (fun h => h.2.1 rfl)
theorem Three.y (h : Three w B ga gx gy T X Y) : SetP w (P3 ga gx gy) gy Y := by
  obtain ⟨P, Q, R, h1, h2⟩ := h
  exact h1.y.imp (fun b hp _ => ⟨fun e => h1.ra (e ▸ hp), fun e => h1.rx (e ▸ hp), fun e => h1.y.ng (e ▸ hp)⟩) (fun h => h.2.2 rfl)
theorem Three.addA (h : Three w B ga gx gy T X Y) (hB : B ≤ w.heap.size) (hga : B ≤ ga) (d q : Int) :
    Calls Try.prog 21 #[.pointer (some ⟨ga, 0, none⟩), .agg #[.int .i64 d, .int .i64 q]] w fun e w' => e = .returned (.int .i64 (addE T d q)) ∧ Three w' B ga gx gy (addS T d q) X Y ∧ Grew w w' (fun b => B ≤ b) := by
  obtain ⟨P, Q, R, h1, h2⟩ := h
  refine (addX_any h1.a d q).mono ?_
  rintro e w' ⟨rfl, hs, hg⟩
  have hsz := hg.size
  refine ⟨rfl, ⟨_, Q, R, h1.turn (fun b hb => (h2 b hb).2) hs hg, fun b hb => ?_⟩, hg.mono fun b hl hx => ?_⟩
  · rcases hb with hp | hq | hr
    · rcases hp with ⟨hp, hl⟩ | ⟨hp, hl⟩
      · exact ⟨(h2 b (.inl hp)).1, by omega⟩
      · exact ⟨by omega, by omega⟩
    · exact ⟨(h2 b (.inr (.inl hq))).1, by have := (h2 b (.inr (.inl hq))).2; omega⟩
    · exact ⟨(h2 b (.inr (.inr hr))).1, by have := (h2 b (.inr (.inr hr))).2; omega⟩
  · rcases hx with e | hp
    · omega
    · exact (h2 b (.inl hp)).1
theorem Three.addX (h : Three w B ga gx gy T X Y) (hB : B ≤ w.heap.size) (hgx : B ≤ gx) (d q : Int) :
    Calls Try.prog 21 #[.pointer (some ⟨gx, 0, none⟩), .agg #[.int .i64 d, .int .i64 q]] w fun e w' => e = .returned (.int .i64 (addE X d q)) ∧ Three w' B ga gx gy T (addS X d q) Y ∧ Grew w w' (fun b => B ≤ b) :=
  (h.swap.addA hB hgx d q).mono fun e w' ⟨h1, h2, h3⟩ => ⟨h1, h2.swap, h3⟩
theorem Three.addY (h : Three w B ga gx gy T X Y) (hB : B ≤ w.heap.size) (hgy : B ≤ gy) (d q : Int) :
    Calls Try.prog 21 #[.pointer (some ⟨gy, 0, none⟩), .agg #[.int .i64 d, .int .i64 q]] w fun e w' => e = .returned (.int .i64 (addE Y d q)) ∧ Three w' B ga gx gy T X (addS Y d q) ∧ Grew w w' (fun b => B ≤ b) :=
  (h.last.addA hB hgy d q).mono fun e w' ⟨h1, h2, h3⟩ => ⟨h1, h2.last, h3⟩
end
theorem deltaS_64 {S : Nat → List Int} (h : OkS S) (known : List Int) : ∀ l ∈ deltaS S known, ∀ z ∈ l, In64 z := by
  intro l hl z hz
  obtain ⟨i, hi⟩ := List.mem_iff_getElem?.1 hl
  have h2 : (deltaS S known).getD i [] = l := by rw [List.getD_eq_getElem?_getD, hi]; rfl
  have hi16 : i < 16 := by
    have := (List.getElem?_eq_some_iff.1 hi).1
    have := deltaS_len S known
    omega
  rw [deltaS_at S known hi16] at h2
  rw [← h2] at hz
  have := (h i).rng z (List.mem_of_mem_drop hz)
  unfold In64
  omega
/-- Five, u and v being copies. -/
structure Five (w : World) (B ga gx gy gu gv : Nat) (T X Y U V : Nat → List Int) : Prop where
  a : SetP w (fun b => b ≠ ga ∧ b ≠ gx ∧ b ≠ gy ∧ b ≠ gu ∧ b ≠ gv) ga T
  x : SetP w (fun b => b ≠ ga ∧ b ≠ gx ∧ b ≠ gy ∧ b ≠ gu ∧ b ≠ gv) gx X
  y : SetP w (fun b => b ≠ ga ∧ b ≠ gx ∧ b ≠ gy ∧ b ≠ gu ∧ b ≠ gv) gy Y
  u : SetP w (fun b => b ≠ ga ∧ b ≠ gx ∧ b ≠ gy ∧ b ≠ gu ∧ b ≠ gv) gu U
  v : SetP w (fun b => b ≠ ga ∧ b ≠ gx ∧ b ≠ gy ∧ b ≠ gu ∧ b ≠ gv) gv V
  bu : B ≤ gu
  bv : B ≤ gv
  la : ga < B
  lx : gx < B
  ly : gy < B
  uv : gu ≠ gv
section
variable {w w' : World} {B ga gx gy gu gv : Nat} {T X Y U V Z : Nat → List Int}
theorem Five.below (h : Five w B ga gx gy gu gv T X Y U V) (hb : Below w.heap.size w w') : Five w' B ga gx gy gu gv T X Y U V := ⟨h.a.below hb, h.x.below hb, h.y.below hb, h.u.below hb, h.v.below hb, h.bu, h.bv, h.la, h.lx, h.ly, h.uv⟩
theorem Five.hP (h : Five w B ga gx gy gu gv T X Y U V) : ∀ b, w.heap.size ≤ b → (b ≠ ga ∧ b ≠ gx ∧ b ≠ gy ∧ b ≠ gu ∧ b ≠ gv) := fun b hb => by
  have h1 := h.a.lt; have h2 := h.x.lt; have h3 := h.y.lt; have h4 := h.u.lt; have h5 := h.v.lt
  exact ⟨by omega, by omega, by omega, by omega, by omega⟩
theorem Five.setU (h : Five w B ga gx gy gu gv T X Y U V) (hs : SetP w' (fun b => b ≠ ga ∧ b ≠ gx ∧ b ≠ gy ∧ b ≠ gu ∧ b ≠ gv) gu Z) (hg : w.grownBy w' (some gu)) : Five w' B ga gx gy gu gv T X Y Z V := by
  have k : ∀ {g : Nat} {S : Nat → List Int}, SetP w (fun b => b ≠ ga ∧ b ≠ gx ∧ b ≠ gy ∧ b ≠ gu ∧ b ≠ gv) g S → gu ≠ g → SetP w' (fun b => b ≠ ga ∧ b ≠ gx ∧ b ≠ gy ∧ b ≠ gu ∧ b ≠ gv) g S := fun q n => q.grew (X := fun b => b = gu) (Grew.of_gro hg rfl) (fun b hb => by subst hb; exact ⟨fun p => p.2.2.2.1 rfl, n⟩)
  have h1 := h.bu; have h2 := h.la; have h3 := h.lx; have h4 := h.ly
  exact ⟨k h.a (by omega), k h.x (by omega), k h.y (by omega), hs, k h.v h.uv, h.bu, h.bv, h.la, h.lx, h.ly, h.uv⟩
theorem Five.setV (h : Five w B ga gx gy gu gv T X Y U V) (hs : SetP w' (fun b => b ≠ ga ∧ b ≠ gx ∧ b ≠ gy ∧ b ≠ gu ∧ b ≠ gv) gv Z) (hg : w.grownBy w' (some gv)) : Five w' B ga gx gy gu gv T X Y U Z := by
  have k : ∀ {g : Nat} {S : Nat → List Int}, SetP w (fun b => b ≠ ga ∧ b ≠ gx ∧ b ≠ gy ∧ b ≠ gu ∧ b ≠ gv) g S → gv ≠ g → SetP w' (fun b => b ≠ ga ∧ b ≠ gx ∧ b ≠ gy ∧ b ≠ gu ∧ b ≠ gv) g S := fun q n => q.grew (X := fun b => b = gv) (Grew.of_gro hg rfl) (fun b hb => by subst hb; exact ⟨fun p => p.2.2.2.2 rfl, n⟩)
  have h1 := h.bv; have h2 := h.la; have h3 := h.lx; have h4 := h.ly
  exact ⟨k h.a (by omega), k h.x (by omega), k h.y (by omega), k h.u (fun e => h.uv e.symm), hs, h.bu, h.bv, h.la, h.lx, h.ly, h.uv⟩
end
set_option maxHeartbeats 32000000 in
set_option maxRecDepth 100000 in
theorem revsetJoined_walk (hlv : Lives11) (A : Option Addr) (xs : List (Int × Int)) (n c : Nat) (hn : xs.length = n) (hc : n ≤ c) (hm : c ≤ 9223372036854775807) (aA : Option Addr) (al : List Int) (an ac : Nat) (han : al.length = an) (hac : an ≤ ac) (ham : ac ≤ 9223372036854775807) (bA : Option Addr) (bl : List Int) (bn bc : Nat) (hbn : bl.length = bn) (hbc : bn ≤ bc) (hbm : bc ≤ 9223372036854775807) (w : World) (h : Els encI w w.heap.size A xs) (hea : Els encN w w.heap.size aA al) (heb : Els encN w w.heap.size bA bl) :
    Calls Try.prog 6 #[.slice A n c, .slice aA an ac, .slice bA bn bc] w fun e w' => e = .returned (.bool true) ∧ Below w.heap.size w w' := by
  have HLV := hid hlv
  have HD := hid h
  have HN := hid hn
  have HGA := hid (fun (d : Int) (hd : -9223372036854775808 ≤ d) W (hW : Below w.heap.size w W) => refGet_any aA al an ac han (by omega) d hd W ((hea.below hW).more hW.size))
  have HGB := hid (fun (d : Int) (hd : -9223372036854775808 ≤ d) W (hW : Below w.heap.size w W) => refGet_any bA bl bn bc hbn (by omega) d hd W ((heb.below hW).more hW.size))
  clear hlv h hn hea heb han hbn
  go_enter Try.func6, Try.ntmps6
  go_wp2_with fail
  refine (new11_any w).mono ?_
  rintro er w1 ⟨ga, rfl, s1, s2, b1, p1⟩
  have HP1 := hid p1
  have HB1 := hid b1
  have HA1 : Hid (w.heap.size ≤ ga ∧ ga < w1.heap.size) := hid ⟨s1, s2⟩
  clear b1 p1 s1 s2
  go_wp2_with fail
  refine (new11_any w1).mono ?_
  rintro er w2 ⟨gx, rfl, s1, s2, b1, p1⟩
  have HP2 := hid p1
  have HB2 := hid b1
  have HA2 : Hid (w1.heap.size ≤ gx ∧ gx < w2.heap.size) := hid ⟨s1, s2⟩
  clear b1 p1 s1 s2
  go_wp2_with fail
  refine (new11_any w2).mono ?_
  rintro er w3 ⟨gy, rfl, s1, s2, b1, p1⟩
  have HAY : Hid (w2.heap.size ≤ gy ∧ gy < w3.heap.size) := hid ⟨s1, s2⟩
  have HT : Hid (Three w3 w.heap.size ga gx gy S0 (takeS S0 al) (takeS S0 bl)) := hid (by
    rw [takeS_zero, takeS_zero]
    have h1 := HA1.out; have h2 := HA2.out; have h3 := HAY.out; have k2 := HB2.out.size
    exact ⟨fun _ => False, fun _ => False, fun _ => False, ⟨((HP1.out (fun _ => False) id).below HB2.out).below b1, (HP2.out (fun _ => False) id).below b1, p1 (fun _ => False) id, by omega, by omega, by omega, fun _ h => h.elim, fun _ h => h.elim, fun _ h => h.elim, id, id, id, id, id, id⟩, fun _ h => by rcases h with h | h | h <;> exact h.elim⟩)
  have HB3 : Hid (Below w.heap.size w w3) := hid ((HB1.out.trans (HB2.out.mono HB1.out.size)).trans (b1.mono (by have := HB1.out.size; have := HB2.out.size; omega)))
  have hga : w.heap.size ≤ ga ∧ w.heap.size ≤ gx ∧ w.heap.size ≤ gy := by have h1 := HA1.out; have h2 := HA2.out; have h3 := HAY.out; have k1 := HB1.out.size; have k2 := HB2.out.size; omega
  clear b1 p1 s1 s2 HP1 HP2 HB1 HB2 HA1 HA2 HAY
  go_wp2_with fail
  go_loopw [10] (fun i wr => ∃ (k : Nat) (T : Nat → List Int), i = .int .i64 (k : Int) ∧ k ≤ n ∧ k ≤ 40 ∧ Hid (Three wr w.heap.size ga gx gy T (takeS T al) (takeS T bl)) ∧ Hid (Below w.heap.size w wr)) (fun i _ => 40 - (intOf i).toNat)
  case atStart => exact ⟨0, S0, rfl, Nat.zero_le _, Nat.zero_le _, HT, HB3⟩
  case round =>
    clear HT HB3
    obtain ⟨wj, hwj⟩ : ∃ x, x = wr := ⟨_, rfl⟩
    subst hwj
    obtain ⟨k, T, rfl, hk, hk40, HT, HB⟩ := hrel
    have hk0 : (0 : Int) ≤ (k : Int) := Int.natCast_nonneg _
    by_cases hlt : k < n ∧ k < 40
    · have hk1 : (k : Int) < (n : Int) := by omega
      have hk2 : (k : Int) < 40 := by omega
      obtain ⟨⟨d, q⟩, hx⟩ : ∃ x, xs[k]? = some x := ⟨_, List.getElem?_eq_getElem (by rw [HN.out]; exact hlt.1)⟩
      obtain ⟨ad, aj, hA, hab, haj, hbj, z0, z1⟩ := HD.out.get hx
      have hz0 := z0 _ rfl
      have hz1 := z1 1 _ (by omega) rfl
      have HID : Hid (∀ W, Below w.heap.size w W → W.cell? aj = some (.int .i64 d) ∧ W.cell? ⟨aj.block, aj.off + 1, none⟩ = some (.int .i64 q)) := hid (fun W hW => by
        have hj : aj.block < w.heap.size := by rw [hbj]; exact hab
        exact ⟨(hW.cell hj).trans hz0, (hW.cell (p := ⟨aj.block, aj.off + 1, none⟩) hj).trans hz1⟩)
      subst hA
      have haj2 : ad.add (k * 2) = aj := haj
      clear hx hab hbj z0 z1 hz0 hz1 haj
      obtain ⟨c0, c1⟩ := HID.out wj HB.out
      go_wp2_with fail
      refine (HT.out.addA HB.out.size hga.1 d q).mono ?_
      rintro er w1 ⟨rfl, s1, g1⟩
      have HT1 := hid s1
      have HB1 : Hid (Below w.heap.size w w1) := hid (Grew.then_below HB.out g1 HB.out.size (fun b hb => hb))
      clear s1 g1 c0 c1
      by_cases h0 : addE T d q = 0
      · obtain ⟨h1, h2, h3, h4, h5, h6⟩ := addE_zero h0
        obtain ⟨kk, hkk⟩ : ∃ kk : Nat, d = (kk : Int) + 1 := ⟨(d - 1).toNat, by omega⟩
        subst hkk
        have hk16 : kk < 16 := by omega
        have HE0 := hid h0
        have HAS : Hid (addS T ((kk : Int) + 1) q = up T kk (T kk ++ [q])) := hid (by unfold addS; rw [if_pos h0, show ((kk : Int) + 1 - 1).toNat = kk by omega])
        have HLN : Hid ((rowS (addS T ((kk : Int) + 1) q) ((kk : Int) + 1)).length = (T kk).length + 1) := hid (by rw [rowS_at hk16, HAS.out, up_at, List.length_append]; rfl)
        have HXA : Hid (((T kk).length : Int) + 1 ≤ vat al kk → addS (takeS T al) ((kk : Int) + 1) q = takeS (addS T ((kk : Int) + 1) q) al) := hid (fun h => (takeS_add hk16 h0 h).2)
        have HXO : Hid (¬ ((T kk).length : Int) + 1 ≤ vat al kk → takeS T al = takeS (addS T ((kk : Int) + 1) q) al) := hid (fun h => by rw [HAS.out]; exact (takeS_out h).symm)
        have HYA : Hid (((T kk).length : Int) + 1 ≤ vat bl kk → addS (takeS T bl) ((kk : Int) + 1) q = takeS (addS T ((kk : Int) + 1) q) bl) := hid (fun h => (takeS_add hk16 h0 h).2)
        have HYO : Hid (¬ ((T kk).length : Int) + 1 ≤ vat bl kk → takeS T bl = takeS (addS T ((kk : Int) + 1) q) bl) := hid (fun h => by rw [HAS.out]; exact (takeS_out h).symm)
        rw [h0]
        obtain ⟨T', hT'⟩ : ∃ T', addS T ((kk : Int) + 1) q = T' := ⟨_, rfl⟩
        rw [hT'] at HT1 HLN HXA HXO HYA HYO
        obtain ⟨N, hN⟩ : ∃ N, (T kk).length = N := ⟨_, rfl⟩
        have hN32 : N ≤ 32 := by rw [← hN]; exact (HT.out.a.ok kk).len
        rw [hN] at HLN HXA HXO HYA HYO
        obtain ⟨va, hva⟩ : ∃ v, vat al kk = v := ⟨_, rfl⟩
        obtain ⟨vb, hvb⟩ : ∃ v, vat bl kk = v := ⟨_, rfl⟩
        have HVA : Hid (vget al ((kk : Int) + 1) = va) := hid ((vget_at al hk16).trans hva)
        have HVB : Hid (vget bl ((kk : Int) + 1) = vb) := hid ((vget_at bl hk16).trans hvb)
        rw [hva] at HXA HXO
        rw [hvb] at HYA HYO
        have hN0 : (0 : Int) ≤ (N : Int) := Int.natCast_nonneg _
        clear h0 h1 h2 h3 h4 h5 h6 hT' hN hva hvb HT HB HAS
        obtain ⟨c0, c1⟩ := HID.out w1 HB1.out
        go_wp2_with fail
        refine (row11_any HT1.out.a ((kk : Int) + 1)).mono ?_
        rintro er w2 ⟨A3, n3, c3, rfl, _, _, f3, b3⟩
        have hn3 : n3 = N + 1 := by rw [← f3.len, HLN.out]
        subst hn3
        have HT2 := hid (HT1.out.below b3)
        have HB2 := hid (HB1.out.trans (b3.mono HB1.out.size))
        clear f3 b3 c0 c1 HT1 HB1
        obtain ⟨c0, c1⟩ := HID.out w2 HB2.out
        go_wp2_with fail
        refine (HGA.out ((kk : Int) + 1) (by omega) w2 HB2.out).mono ?_
        rintro er wq ⟨rfl, hw⟩
        have hw2 : w2 = wq := hw
        subst hw2
        rw [HVA.out]
        clear hw
        by_cases ha : (N : Int) + 1 ≤ va
        · go_wp2_with fail
          refine (HT2.out.addX HB2.out.size hga.2.1 ((kk : Int) + 1) q).mono ?_
          rintro er w4 ⟨rfl, s4, g4⟩
          have HT4 : Hid (Three w4 w.heap.size ga gx gy T' (takeS T' al) (takeS T bl)) := hid (by
            have hh := s4
            rw [HXA.out ha] at hh
            exact hh)
          have HB4 : Hid (Below w.heap.size w w4) := hid (Grew.then_below HB2.out g4 HB2.out.size (fun b hb => hb))
          clear s4 g4 c0 c1 HT2 HB2
          obtain ⟨c0, c1⟩ := HID.out w4 HB4.out
          go_wp2_with fail
          refine (HGB.out ((kk : Int) + 1) (by omega) w4 HB4.out).mono ?_
          rintro er wq ⟨rfl, hw⟩
          have hw2 : w4 = wq := hw
          subst hw2
          rw [HVB.out]
          clear hw
          by_cases hb : (N : Int) + 1 ≤ vb
          · go_wp2_with fail
            refine (HT4.out.addY HB4.out.size hga.2.2 ((kk : Int) + 1) q).mono ?_
            rintro er w5 ⟨rfl, s5, g5⟩
            have HT5 : Hid (Three w5 w.heap.size ga gx gy T' (takeS T' al) (takeS T' bl)) := hid (by
              have hh := s5
              rw [HYA.out hb] at hh
              exact hh)
            have HB5 : Hid (Below w.heap.size w w5) := hid (Grew.then_below HB4.out g5 HB4.out.size (fun b hb => hb))
            clear s5 g5 c0 c1
            go_wp2_with fail
            go_roundw
            case rel => exact ⟨k + 1, T', by go_num, by omega, by omega, HT5, HB5⟩
            case measure => simp [intOf]; omega
          · have HT5 : Hid (Three w4 w.heap.size ga gx gy T' (takeS T' al) (takeS T' bl)) := hid (by
              have hh := HT4.out
              rw [HYO.out (by omega)] at hh
              exact hh)
            go_wp2_with fail
            go_roundw
            case rel => exact ⟨k + 1, T', by go_num, by omega, by omega, HT5, HB4⟩
            case measure => simp [intOf]; omega
        · have HT4 : Hid (Three w2 w.heap.size ga gx gy T' (takeS T' al) (takeS T bl)) := hid (by
            have hh := HT2.out
            rw [HXO.out (by omega)] at hh
            exact hh)
          clear c0 c1 HT2
          obtain ⟨c0, c1⟩ := HID.out w2 HB2.out
          go_wp2_with fail
          refine (HGB.out ((kk : Int) + 1) (by omega) w2 HB2.out).mono ?_
          rintro er wq ⟨rfl, hw⟩
          have hw2 : w2 = wq := hw
          subst hw2
          rw [HVB.out]
          clear hw
          by_cases hb : (N : Int) + 1 ≤ vb
          · go_wp2_with fail
            refine (HT4.out.addY HB2.out.size hga.2.2 ((kk : Int) + 1) q).mono ?_
            rintro er w5 ⟨rfl, s5, g5⟩
            have HT5 : Hid (Three w5 w.heap.size ga gx gy T' (takeS T' al) (takeS T' bl)) := hid (by
              have hh := s5
              rw [HYA.out hb] at hh
              exact hh)
            have HB5 : Hid (Below w.heap.size w w5) := hid (Grew.then_below HB2.out g5 HB2.out.size (fun b hb => hb))
            clear s5 g5 c0 c1
            go_wp2_with fail
            go_roundw
            case rel => exact ⟨k + 1, T', by go_num, by omega, by omega, HT5, HB5⟩
            case measure => simp [intOf]; omega
          · have HT5 : Hid (Three w2 w.heap.size ga gx gy T' (takeS T' al) (takeS T' bl)) := hid (by
              have hh := HT4.out
              rw [HYO.out (by omega)] at hh
              exact hh)
            go_wp2_with fail
            go_roundw
            case rel => exact ⟨k + 1, T', by go_num, by omega, by omega, HT5, HB2⟩
            case measure => simp [intOf]; omega
      · have h01 : (addE T d q == 0) = false := beq_eq_false_iff_ne.2 h0
        have HT1' : Hid (Three w1 w.heap.size ga gx gy T (takeS T al) (takeS T bl)) := hid (by
          have hh := HT1.out
          rw [addS_no h0] at hh
          exact hh)
        go_wp2_with fail
        go_roundw
        case rel => exact ⟨k + 1, T, by go_num, by omega, by omega, HT1', HB1⟩
        case measure => simp [intOf]; omega
    · obtain ⟨X, hX⟩ : ∃ X, takeS T al = X := ⟨_, rfl⟩
      obtain ⟨Y, hY⟩ : ∃ Y, takeS T bl = Y := ⟨_, rfl⟩
      have HPX : Hid (∀ i, X i <+: T i) := hid (fun i => by rw [← hX]; exact takeS_pre T al i)
      have HPY : Hid (∀ i, Y i <+: T i) := hid (fun i => by rw [← hY]; exact takeS_pre T bl i)
      rw [hX, hY] at HT
      clear hX hY
      have HOT := hid HT.out.a.ok
      have HOX := hid HT.out.x.ok
      have HOY := hid HT.out.y.ok
      by_cases hk1 : (k : Int) < (n : Int)
      all_goals
        try have hk2 : ¬ (k : Int) < 40 := (by omega)
        go_wp2_with fail
        refine (vector11_any HT.out.x).mono ?_
        rintro er w1 ⟨A1, c1, rfl, f1, b1⟩
        have HF1 := hid f1
        have HT1 := hid (HT.out.below b1)
        have HB1 := hid (HB.out.trans (b1.mono HB.out.size))
        clear f1 b1 HT HB
        go_wp2_with fail
        refine (vector11_any HT1.out.y).mono ?_
        rintro er w2 ⟨A2, c2, rfl, f2, b2⟩
        have HF2 := hid f2.els1
        have HF1' := hid ((HF1.out.below b2).els1)
        have HT2 := hid (HT1.out.below b2)
        have HB2 := hid (HB1.out.trans (b2.mono HB1.out.size))
        clear f2 b2 HT1 HB1 HF1
        have hvx := (vecS_nrm HOX.out).len
        have hvy := (vecS_nrm HOY.out).len
        go_wp2_with fail
        refine (refJoin_any A1 A2 (vecS X) (vecS Y) _ _ c1 c2 rfl rfl (by omega) (by omega) w2 HF1'.out HF2.out).mono ?_
        rintro er w3 ⟨Aw, cw, rfl, o3, b3⟩
        have HW := hid (own_els o3)
        have HT3 := hid (HT2.out.below b3)
        have HB3 := hid (HB2.out.trans (b3.mono HB2.out.size))
        have HWL : Hid ((joinV (vecS X) (vecS Y)).length ≤ 16) := hid (joinV_nrm _ _).len
        clear o3 b3 HT2 HB2 HF2 HF1'
        go_wp2_with fail
        refine (copy11_any HT3.out.x).mono ?_
        rintro er w4 ⟨gu, rfl, s4, l4, b4, p4⟩
        have HPU := hid p4
        have HU4 : Hid (w3.heap.size ≤ gu ∧ gu < w4.heap.size) := hid ⟨s4, l4⟩
        have HT4 := hid (HT3.out.below b4)
        have HB34 := hid b4
        clear b4 p4 s4 l4
        go_wp2_with fail
        refine (copy11_any HT4.out.y).mono ?_
        rintro er w5 ⟨gv, rfl, s5, l5, b5, p5⟩
        have HF : Hid (Five w5 w3.heap.size ga gx gy gu gv T X Y X Y) := hid (by
          have h4 := HU4.out
          have h6 := HT3.out.a.lt
          have h7 := HT3.out.x.lt
          have h8 := HT3.out.y.lt
          have hb35 : Below w3.heap.size w3 w5 := HB34.out.trans (b5.mono HB34.out.size)
          have kk : ∀ {g : Nat} {S : Nat → List Int}, SetP w3 (P3 ga gx gy) g S → (g = ga ∨ g = gx ∨ g = gy) → SetP w5 (fun b => b ≠ ga ∧ b ≠ gx ∧ b ≠ gy ∧ b ≠ gu ∧ b ≠ gv) g S := fun qq hg => qq.kept (fun b _ hl => hb35.block b hl) hb35.size (fun b hp hb => ⟨hp.1, hp.2.1, hp.2.2, by omega, by omega⟩) (by rintro ⟨e1, e2, e3, _⟩; exact hg.elim e1 (fun hg => hg.elim e2 e3))
          have hu : SetP w5 (fun b => b ≠ ga ∧ b ≠ gx ∧ b ≠ gy ∧ b ≠ gu ∧ b ≠ gv) gu X := (HPU.out (fun b => b ≠ ga ∧ b ≠ gx ∧ b ≠ gy ∧ b ≠ gu) (fun p => p.2.2.2 rfl) (fun b hb hn => ⟨by omega, by omega, by omega, hn⟩)).kept (fun b _ hl => b5.block b hl) b5.size (fun b hp hb => ⟨hp.1, hp.2.1, hp.2.2.1, hp.2.2.2, by omega⟩) (fun p => p.2.2.2.1 rfl)
          have hv : SetP w5 (fun b => b ≠ ga ∧ b ≠ gx ∧ b ≠ gy ∧ b ≠ gu ∧ b ≠ gv) gv Y := p5 _ (fun p => p.2.2.2.2 rfl) (fun b hb hn => ⟨by omega, by omega, by omega, by omega, hn⟩)
          exact ⟨kk HT3.out.a (.inl rfl), kk HT3.out.x (.inr (.inl rfl)), kk HT3.out.y (.inr (.inr rfl)), hu, hv, h4.1, by omega, h6, h7, h8, by omega⟩)
        have HBW : Hid (Below w3.heap.size w3 w5) := hid (HB34.out.trans (b5.mono HB34.out.size))
        have HB5 := hid (HB3.out.trans (HBW.out.mono HB3.out.size))
        clear b5 p5 s5 l5 HPU HU4 HT3 HT4 HB34
        have HB30 := hid HB3.out
        obtain ⟨U, hU⟩ : ∃ U, joinS X Y = U := ⟨_, rfl⟩
        obtain ⟨V, hV⟩ : ∃ V, joinS Y X = V := ⟨_, rfl⟩
        have HUV : Hid (∀ i, i < 16 → U i = V i) := hid (fun i hi => by rw [← hU, ← hV]; exact joinS_comm HOX.out HOY.out HOT.out HPX.out HPY.out hi)
        have HUT : Hid (∀ i, i < 16 → U i <+: T i) := hid (fun i hi => by rw [← hU]; exact joinS_pre HOX.out HOT.out HPX.out HPY.out hi)
        have HAG : Hid (mergeS U (vecS X) (deltaS Y (vecS X)) 16 = U ∧ mergeN U (vecS X) (deltaS Y (vecS X)) 16 = 0) := hid (by rw [← hU]; exact ⟨again_S HOX.out HOT.out HPX.out HPY.out, again_N HOX.out HOT.out HPX.out HPY.out⟩)
        have HWU : Hid (vecS U = joinV (vecS X) (vecS Y)) := hid (by rw [← hU]; exact joinS_vec HOX.out HOY.out HOT.out HPX.out HPY.out)
        have HWV : Hid (vecS V = joinV (vecS X) (vecS Y)) := hid (by rw [← hV]; exact joinS_vec' HOX.out HOY.out HOT.out HPX.out HPY.out)
        have HUE : Hid (mergeS X (vecS X) (deltaS Y (vecS X)) 16 = U) := hid hU
        have HVE : Hid (mergeS Y (vecS Y) (deltaS X (vecS Y)) 16 = V) := hid hV
        clear hU hV
        have hgt : Hid (¬ (w5.heap.size ≤ gu)) := hid (by have := HF.out.u.lt; omega)
        go_wp2_with fail
        refine (vector11_any HF.out.x).mono ?_
        rintro er w6 ⟨Ap, cp, rfl, f, b⟩
        have HVp := hid f
        have HF' := hid (HF.out.below b)
        have HBW' := hid (HBW.out.trans (b.mono HBW.out.size))
        have HB' := hid (HB5.out.trans (b.mono HB5.out.size))
        have HSZ6 : Hid (w5.heap.size ≤ w6.heap.size) := hid b.size
        have HBL6 := hid b
        clear f b HF HBW HB5
        have HF := HF'
        have HBW := HBW'
        have HB5 := HB'
        clear HF' HBW' HB'
        go_wp2_with fail
        refine (vector11_any HF.out.x).mono ?_
        rintro er w7 ⟨Aq, cq, rfl, f, b⟩
        have HVq := hid f
        have HF' := hid (HF.out.below b)
        have HBW' := hid (HBW.out.trans (b.mono HBW.out.size))
        have HB' := hid (HB5.out.trans (b.mono HB5.out.size))
        have HSZ7 : Hid (w6.heap.size ≤ w7.heap.size) := hid b.size
        have HBL7 := hid b
        clear f b HF HBW HB5
        have HF := HF'
        have HBW := HBW'
        have HB5 := HB'
        clear HF' HBW' HB'
        have HVQ := hid HVq.out.els1
        go_wp2_with fail
        refine (delta11_any HF.out.y Aq (vecS X) _ cq rfl (by omega) HVQ.out).mono ?_
        rintro er w8 ⟨Ad, md, cd, rfl, qd1, qd2, f, b⟩
        have HVP : Hid (Frs w8 w5.heap.size Ap (vecS X).length (vecS X)) := hid ((HVp.out.below HBL7.out).below b)
        have HVD := hid f
        have HF' := hid (HF.out.below b)
        have HBW' := hid (HBW.out.trans (b.mono HBW.out.size))
        have HB' := hid (HB5.out.trans (b.mono HB5.out.size))
        have HSQ : Hid (w5.heap.size ≤ w7.heap.size) := hid (by have h1 := HSZ6.out; have h2 := HSZ7.out; omega)
        clear f b HF HBW HB5 HVp HVq HVQ HSZ6 HSZ7 HBL6 HBL7
        have HF := HF'
        have HBW := HBW'
        have HB5 := HB'
        clear HF' HBW' HB'
        have hdl := deltaS_len Y (vecS X)
        have HML := hid (deltaS_mem HF.out.y.ok (vecS X))
        have HM64 := hid (deltaS_64 HF.out.y.ok (vecS X))
        have hmd : md ≤ 16 := by rw [← HVD.out.len]; exact hdl
        go_wp2_with fail
        refine (merge11_any (Q := fun b => w5.heap.size ≤ b) HF.out.u HF.out.hP hgt.out Ap (vecS X) _ cp rfl (by omega) HVP.out.elsQ Ad (deltaS Y (vecS X)) md cd HVD.out.len (by omega) HML.out HM64.out (HVD.out.llsQ.imp (fun b h _ => Nat.le_trans HSQ.out h))).mono ?_
        rintro er w9 ⟨rfl, s, gg⟩
        rw [HUE.out] at s
        obtain ⟨N1, hN1⟩ : ∃ N1, mergeN X (vecS X) (deltaS Y (vecS X)) 16 = N1 := ⟨_, rfl⟩
        rw [hN1]
        clear hN1
        have HF' := hid (HF.out.setU s gg)
        have hgr : Grew w8 w9 (fun b => b = gu) := Grew.of_gro gg rfl
        have HBW' := hid (Grew.then_below HBW.out hgr HBW.out.size (fun b hb => by have h1 := HF.out.bu; have h2 := HF.out.bv; omega))
        have HB' := hid (Grew.then_below HB5.out hgr HB5.out.size (fun b hb => by have h1 := HF.out.bu; have h2 := HF.out.bv; have h3 := HB30.out.size; omega))
        clear s gg hgr HF HBW HB5 HVP HVD HSQ hdl HML HM64 hgt hmd
        have HF := HF'
        have HBW := HBW'
        have HB5 := HB'
        clear HF' HBW' HB'
        have hgt : Hid (¬ (w9.heap.size ≤ gv)) := hid (by have := HF.out.v.lt; omega)
        go_wp2_with fail
        refine (vector11_any HF.out.y).mono ?_
        rintro er w10 ⟨Ap, cp, rfl, f, b⟩
        have HVp := hid f
        have HF' := hid (HF.out.below b)
        have HBW' := hid (HBW.out.trans (b.mono HBW.out.size))
        have HB' := hid (HB5.out.trans (b.mono HB5.out.size))
        have HSZ10 : Hid (w9.heap.size ≤ w10.heap.size) := hid b.size
        have HBL10 := hid b
        clear f b HF HBW HB5
        have HF := HF'
        have HBW := HBW'
        have HB5 := HB'
        clear HF' HBW' HB'
        go_wp2_with fail
        refine (vector11_any HF.out.y).mono ?_
        rintro er w11 ⟨Aq, cq, rfl, f, b⟩
        have HVq := hid f
        have HF' := hid (HF.out.below b)
        have HBW' := hid (HBW.out.trans (b.mono HBW.out.size))
        have HB' := hid (HB5.out.trans (b.mono HB5.out.size))
        have HSZ11 : Hid (w10.heap.size ≤ w11.heap.size) := hid b.size
        have HBL11 := hid b
        clear f b HF HBW HB5
        have HF := HF'
        have HBW := HBW'
        have HB5 := HB'
        clear HF' HBW' HB'
        have HVQ := hid HVq.out.els1
        go_wp2_with fail
        refine (delta11_any HF.out.x Aq (vecS Y) _ cq rfl (by omega) HVQ.out).mono ?_
        rintro er w12 ⟨Ad, md, cd, rfl, qd1, qd2, f, b⟩
        have HVP : Hid (Frs w12 w9.heap.size Ap (vecS Y).length (vecS Y)) := hid ((HVp.out.below HBL11.out).below b)
        have HVD := hid f
        have HF' := hid (HF.out.below b)
        have HBW' := hid (HBW.out.trans (b.mono HBW.out.size))
        have HB' := hid (HB5.out.trans (b.mono HB5.out.size))
        have HSQ : Hid (w9.heap.size ≤ w11.heap.size) := hid (by have h1 := HSZ10.out; have h2 := HSZ11.out; omega)
        clear f b HF HBW HB5 HVp HVq HVQ HSZ10 HSZ11 HBL10 HBL11
        have HF := HF'
        have HBW := HBW'
        have HB5 := HB'
        clear HF' HBW' HB'
        have hdl := deltaS_len X (vecS Y)
        have HML := hid (deltaS_mem HF.out.x.ok (vecS Y))
        have HM64 := hid (deltaS_64 HF.out.x.ok (vecS Y))
        have hmd : md ≤ 16 := by rw [← HVD.out.len]; exact hdl
        go_wp2_with fail
        refine (merge11_any (Q := fun b => w9.heap.size ≤ b) HF.out.v HF.out.hP hgt.out Ap (vecS Y) _ cp rfl (by omega) HVP.out.elsQ Ad (deltaS X (vecS Y)) md cd HVD.out.len (by omega) HML.out HM64.out (HVD.out.llsQ.imp (fun b h _ => Nat.le_trans HSQ.out h))).mono ?_
        rintro er w13 ⟨rfl, s, gg⟩
        rw [HVE.out] at s
        obtain ⟨N2, hN2⟩ : ∃ N2, mergeN Y (vecS Y) (deltaS X (vecS Y)) 16 = N2 := ⟨_, rfl⟩
        rw [hN2]
        clear hN2
        have HF' := hid (HF.out.setV s gg)
        have hgr : Grew w12 w13 (fun b => b = gv) := Grew.of_gro gg rfl
        have HBW' := hid (Grew.then_below HBW.out hgr HBW.out.size (fun b hb => by have h1 := HF.out.bu; have h2 := HF.out.bv; omega))
        have HB' := hid (Grew.then_below HB5.out hgr HB5.out.size (fun b hb => by have h1 := HF.out.bu; have h2 := HF.out.bv; have h3 := HB30.out.size; omega))
        clear s gg hgr HF HBW HB5 HVP HVD HSQ hdl HML HM64 hgt hmd
        have HF := HF'
        have HBW := HBW'
        have HB5 := HB'
        clear HF' HBW' HB'
        have hgt : Hid (¬ (w13.heap.size ≤ gu)) := hid (by have := HF.out.u.lt; omega)
        go_wp2_with fail
        refine (vector11_any HF.out.x).mono ?_
        rintro er w14 ⟨Ap, cp, rfl, f, b⟩
        have HVp := hid f
        have HF' := hid (HF.out.below b)
        have HBW' := hid (HBW.out.trans (b.mono HBW.out.size))
        have HB' := hid (HB5.out.trans (b.mono HB5.out.size))
        have HSZ14 : Hid (w13.heap.size ≤ w14.heap.size) := hid b.size
        have HBL14 := hid b
        clear f b HF HBW HB5
        have HF := HF'
        have HBW := HBW'
        have HB5 := HB'
        clear HF' HBW' HB'
        go_wp2_with fail
        refine (vector11_any HF.out.x).mono ?_
        rintro er w15 ⟨Aq, cq, rfl, f, b⟩
        have HVq := hid f
        have HF' := hid (HF.out.below b)
        have HBW' := hid (HBW.out.trans (b.mono HBW.out.size))
        have HB' := hid (HB5.out.trans (b.mono HB5.out.size))
        have HSZ15 : Hid (w14.heap.size ≤ w15.heap.size) := hid b.size
        have HBL15 := hid b
        clear f b HF HBW HB5
        have HF := HF'
        have HBW := HBW'
        have HB5 := HB'
        clear HF' HBW' HB'
        have HVQ := hid HVq.out.els1
        go_wp2_with fail
        refine (delta11_any HF.out.y Aq (vecS X) _ cq rfl (by omega) HVQ.out).mono ?_
        rintro er w16 ⟨Ad, md, cd, rfl, qd1, qd2, f, b⟩
        have HVP : Hid (Frs w16 w13.heap.size Ap (vecS X).length (vecS X)) := hid ((HVp.out.below HBL15.out).below b)
        have HVD := hid f
        have HF' := hid (HF.out.below b)
        have HBW' := hid (HBW.out.trans (b.mono HBW.out.size))
        have HB' := hid (HB5.out.trans (b.mono HB5.out.size))
        have HSQ : Hid (w13.heap.size ≤ w15.heap.size) := hid (by have h1 := HSZ14.out; have h2 := HSZ15.out; omega)
        clear f b HF HBW HB5 HVp HVq HVQ HSZ14 HSZ15 HBL14 HBL15
        have HF := HF'
        have HBW := HBW'
        have HB5 := HB'
        clear HF' HBW' HB'
        have hdl := deltaS_len Y (vecS X)
        have HML := hid (deltaS_mem HF.out.y.ok (vecS X))
        have HM64 := hid (deltaS_64 HF.out.y.ok (vecS X))
        have hmd : md ≤ 16 := by rw [← HVD.out.len]; exact hdl
        go_wp2_with fail
        refine (merge11_any (Q := fun b => w13.heap.size ≤ b) HF.out.u HF.out.hP hgt.out Ap (vecS X) _ cp rfl (by omega) HVP.out.elsQ Ad (deltaS Y (vecS X)) md cd HVD.out.len (by omega) HML.out HM64.out (HVD.out.llsQ.imp (fun b h _ => Nat.le_trans HSQ.out h))).mono ?_
        rintro er w17 ⟨rfl, s, gg⟩
        rw [HAG.out.1] at s
        rw [HAG.out.2]
        have HF' := hid (HF.out.setU s gg)
        have hgr : Grew w16 w17 (fun b => b = gu) := Grew.of_gro gg rfl
        have HBW' := hid (Grew.then_below HBW.out hgr HBW.out.size (fun b hb => by have h1 := HF.out.bu; have h2 := HF.out.bv; omega))
        have HB' := hid (Grew.then_below HB5.out hgr HB5.out.size (fun b hb => by have h1 := HF.out.bu; have h2 := HF.out.bv; have h3 := HB30.out.size; omega))
        clear s gg hgr HF HBW HB5 HVP HVD HSQ hdl HML HM64 hgt hmd
        have HF := HF'
        have HBW := HBW'
        have HB5 := HB'
        clear HF' HBW' HB'
        have HVT := hid (vector11_any HF.out.u)
        rw [HWU.out] at HVT
        go_wp2_with fail
        refine HVT.out.mono ?_
        rintro er w18 ⟨Av, cv, rfl, f, b⟩
        have HVV := hid f.els1
        have HF' := hid (HF.out.below b)
        have HBW' := hid (HBW.out.trans (b.mono HBW.out.size))
        have HB' := hid (HB5.out.trans (b.mono HB5.out.size))
        clear f b HF HBW HB5 HVT
        have hwl := HWL.out
        go_wp2_with fail
        refine (sameD_any Av Aw (joinV (vecS X) (vecS Y)) _ _ cv cw rfl rfl (by omega) w18 HVV.out ((HW.out.below HBW'.out).more HBW'.out.size)).mono ?_
        rintro er w19 ⟨rfl, b⟩
        have HF := hid (HF'.out.below b)
        have HBW := hid (HBW'.out.trans (b.mono HBW'.out.size))
        have HB5 := hid (HB'.out.trans (b.mono HB'.out.size))
        clear b HF' HBW' HB' HVV hwl
        have HVT := hid (vector11_any HF.out.v)
        rw [HWV.out] at HVT
        go_wp2_with fail
        refine HVT.out.mono ?_
        rintro er w20 ⟨Av, cv, rfl, f, b⟩
        have HVV := hid f.els1
        have HF' := hid (HF.out.below b)
        have HBW' := hid (HBW.out.trans (b.mono HBW.out.size))
        have HB' := hid (HB5.out.trans (b.mono HB5.out.size))
        clear f b HF HBW HB5 HVT
        have hwl := HWL.out
        go_wp2_with fail
        refine (sameD_any Av Aw (joinV (vecS X) (vecS Y)) _ _ cv cw rfl rfl (by omega) w20 HVV.out ((HW.out.below HBW'.out).more HBW'.out.size)).mono ?_
        rintro er w21 ⟨rfl, b⟩
        have HF := hid (HF'.out.below b)
        have HBW := hid (HBW'.out.trans (b.mono HBW'.out.size))
        have HB5 := hid (HB'.out.trans (b.mono HB'.out.size))
        clear b HF' HBW' HB' HVV hwl
        have hn10 : (0 : Int) ≤ (N1 : Int) := Int.natCast_nonneg _
        have hn20 : (0 : Int) ≤ (N2 : Int) := Int.natCast_nonneg _
        clear HBW HW HWL HWU HWV HAG HUE HVE
        go_wp2_with fail
        go_loopw [20] (fun i wr => ∃ j : Nat, i = .int .i64 ((j : Int) + 1) ∧ j ≤ 16 ∧ Hid (Five wr w3.heap.size ga gx gy gu gv T X Y U V) ∧ Hid (Below w.heap.size w wr)) (fun i _ => 17 - (intOf i).toNat)
        case atStart => exact ⟨0, rfl, Nat.zero_le _, HF, HB5⟩
        case round =>
          clear HF HB5
          obtain ⟨wv, hwv⟩ : ∃ y, y = wr := ⟨_, rfl⟩
          subst hwv
          obtain ⟨j, rfl, hj, HF, HB5⟩ := hrel
          have hj0 : (0 : Int) ≤ (j : Int) := Int.natCast_nonneg _
          by_cases hltj : j < 16
          · have hj1 : (j : Int) + 1 ≤ 16 := by omega
            have huv := HUV.out j hltj
            have hut := HUT.out j hltj
            have hol := (HOT.out j).len
            have hul := (HF.out.u.ok j).len
            have HRU := hid (fun W (hW : Below wv.heap.size wv W) => row11_any (HF.out.below hW).u ((j : Int) + 1))
            have HRV := hid (fun W (hW : Below wv.heap.size wv W) => row11_any (HF.out.below hW).v ((j : Int) + 1))
            have HRT := hid (fun W (hW : Below wv.heap.size wv W) => row11_any (HF.out.below hW).a ((j : Int) + 1))
            rw [rowS_at hltj] at HRU HRV HRT
            rw [← huv] at HRV
            obtain ⟨ru, hru⟩ : ∃ y, U j = y := ⟨_, rfl⟩
            rw [hru] at HRU HRV hut hul
            obtain ⟨rt, hrt⟩ : ∃ y, T j = y := ⟨_, rfl⟩
            rw [hrt] at HRT hut hol
            clear huv hru hrt
            go_wp2_with fail
            refine (HRU.out _ (Below.refl _ _)).mono ?_
            rintro er y1 ⟨A1, n1, c1, rfl, p1, q1, f1, k1⟩
            have HE1 := hid f1.els1
            have HL1 := hid f1.len
            have HQ1 := hid k1
            clear f1 k1
            go_wp2_with fail
            refine (HRV.out _ HQ1.out).mono ?_
            rintro er y2 ⟨A2, n2, c2, rfl, p2, q2, f2, k2⟩
            have HE2 := hid f2.els1
            have HL2 := hid f2.len
            have HE12 := hid ((HE1.out.below k2).more k2.size)
            have HQ2 := hid (HQ1.out.trans (k2.mono HQ1.out.size))
            clear f2 k2
            go_wp2_with fail
            refine (sameD_any A1 A2 ru n1 n2 c1 c2 HL1.out HL2.out (by have := HL1.out; omega) y2 HE12.out HE2.out).mono ?_
            rintro er y3 ⟨rfl, k3⟩
            have HQ3 := hid (HQ2.out.trans (k3.mono HQ2.out.size))
            clear k3 HE1 HE2 HE12 HL1 HL2 p1 q1 p2 q2
            go_wp2_with fail
            refine (HRT.out _ HQ3.out).mono ?_
            rintro er y4 ⟨A4, n4, c4, rfl, p4, q4, f4, k4⟩
            have HE4 := hid f4.els1
            have HL4 := hid f4.len
            have HQ4 := hid (HQ3.out.trans (k4.mono HQ3.out.size))
            clear f4 k4
            go_wp2_with fail
            refine (HRU.out _ HQ4.out).mono ?_
            rintro er y5 ⟨A5, n5, c5, rfl, p5, q5, f5, k5⟩
            have HE5 := hid f5.els1
            have HL5 := hid f5.len
            have HE45 := hid ((HE4.out.below k5).more k5.size)
            have HQ5 := hid (HQ4.out.trans (k5.mono HQ4.out.size))
            clear f5 k5
            go_wp2_with fail
            refine (begins11_any A4 A5 rt ru n4 n5 c4 c5 HL4.out HL5.out p4 q4 (by have := HL4.out; omega) (by have := HL5.out; omega) y5 HE45.out HE5.out).mono ?_
            rintro er y6 ⟨rfl, q6, hy6⟩
            rw [show decide (ru <+: rt) = true from decide_eq_true hut]
            have HQ6 : Hid (Below wv.heap.size wv y6) := hid (by rw [hy6]; exact below_drewN HQ5.out q6)
            clear hy6 HE4 HE5 HE45 HL4 HL5 p4 q4 p5 q5
            go_wp2_with fail
            go_roundw
            case rel => exact ⟨j + 1, by go_num, by omega, hid (HF.out.below HQ6.out), hid (HB5.out.trans (HQ6.out.mono HB5.out.size))⟩
            case measure => simp [intOf]; omega
          · obtain rfl : j = 16 := by omega
            go_wp2_with fail
            refine (HLV.out _).mono ?_
            rintro er y1 ⟨rfl, k1⟩
            have HBZ := hid (HB5.out.trans (k1.mono HB5.out.size))
            clear k1
            go_wp2_with fail
            go_ret
            exact ⟨rfl, HBZ.out⟩
end Go.Proofs.Ytifoppnpgljphaa.Sh
