/-
  The document's own side: block, by contract.
-/
import Derived.Test.YtaadmgbmaekicaaGreatDoorJn22
import Derived.Test.YtaadmgbmaekicaaGreatDoorJn18
import Derived.Deep.DeepCutAuto
set_option linter.unusedVariables false
set_option linter.unusedSimpArgs false
namespace Go.Proofs.YtaadmgbmaekicaaGreatDoor.Sh
open Go Go.RowKit
attribute [local irreducible] sched rounds absorb

theorem iv_snoc (l : List UInt32) (x : UInt32) : iv (l ++ [x]) = iv l ++ [.int .i64 x.toNat] := by simp [iv]

theorem word_sum4 (a b c d : UInt32) (w : World) :
    Calls Tryz.prog 127 #[.int .i64 ((a.toNat : Int) + b.toNat + c.toNat + d.toNat)] w fun e w' => e = .returned (.int .i64 (a + b + c + d).toNat) ∧ w = w' := by
  have ha := lt32 a
  have hb := lt32 b
  have hc := lt32 c
  have hd := lt32 d
  refine (word_any _ (by omega) (by omega) w).mono fun e w' ⟨he, hw⟩ => ⟨?_, hw⟩
  rw [he]
  refine ret_int ?_
  simp only [UInt32.toNat_add]
  omega
theorem iv_at {l : List UInt32} {j : Nat} {x : UInt32} (h : l[j]? = some x) : (iv l)[j]? = some (.int .i64 x.toNat) := by simp [iv, h]
theorem more_next {blk : List UInt8} {j : Nat} {a b c d : UInt32} (ha : (more blk j)[j]? = some a) (hb : (more blk j)[j + 1]? = some b) (hc : (more blk j)[j + 9]? = some c) (hd : (more blk j)[j + 14]? = some d) :
    more blk (j + 1) = more blk j ++ [a + sig0 b + c + sig1 d] := by
  simp only [more, next, List.getD_eq_getElem?_getD]
  rw [show 16 + j - 16 = j by omega, show 16 + j - 15 = j + 1 by omega, show 16 + j - 7 = j + 9 by omega, show 16 + j - 2 = j + 14 by omega, ha, hb, hc, hd]
  rfl
theorem below_keep {w wr w2 : World} {M g : Nat} {o : Obj} (hb : Below w.heap.size w wr) (hg : ((wr.drewN M).alloc o).grownBy w2 (some g)) (h : w.heap.size ≤ g) : Below w.heap.size w w2 :=
  ((below_drewN hb M).alloc (w := wr.drewN M) hb.size o).grown hg (le_alloc (w := wr.drewN M) hb.size o) (fun k hk => by injection hk with hk; omega)
theorem one_one (X : UInt32) : ∀ u ∈ [Value.int .i64 (X.toNat : Int)], u.oneCell' = true := by
  intro u hu
  simp only [List.mem_cons, List.not_mem_nil, or_false] at hu
  subst hu; rfl
/-- Behind an append to a row of the call's own (one value laid ahead, one draw): what was there when the call began is as it was. -/
theorem cell_grown {w wr w2 : World} {e : TypeId} {v : Value} {n : Nat} {xs : List Value} {o : Obj} (hown : wr.ownsRow w.heap.size e 1 v n xs) (hb : Below w.heap.size w wr) (hg : (wr.alloc o).drew.grownBy w2 v.ownBlock) {p : Addr} (hp : p.block < w.heap.size) : w2.cell? p = wr.cell? p := by
  have hs := hb.size
  refine (hg.cell_far p (by show p.block < (wr.alloc o).heap.size; rw [World.size_alloc]; omega) (fun e => by have := hown.lt _ e.symm; omega)).trans ?_
  exact World.cell?_alloc_lt wr o p (by omega)
theorem below_grown {w wr w2 : World} {e : TypeId} {v : Value} {n : Nat} {xs : List Value} {o : Obj} (hown : wr.ownsRow w.heap.size e 1 v n xs) (hb : Below w.heap.size w wr) (hg : (wr.alloc o).drew.grownBy w2 v.ownBlock) : Below w.heap.size w w2 :=
  ((hb.alloc hb.size _).drew).grown hg (by show w.heap.size ≤ (wr.alloc o).heap.size; rw [World.size_alloc]; have := hb.size; omega) (fun g hg => (hown.lt g hg).1)

theorem cell_grownN {w wr w2 : World} {e : TypeId} {v : Value} {n M : Nat} {xs : List Value} {o : Obj} (hown : wr.ownsRow w.heap.size e 1 v n xs) (hb : Below w.heap.size w wr) (hg : ((wr.alloc o).drewN M).grownBy w2 v.ownBlock) {p : Addr} (hp : p.block < w.heap.size) : w2.cell? p = wr.cell? p :=
  cell_grown hown hb (o := o) ⟨hg.os, hg.tape, hg.output, hg.size, hg.block⟩ hp
theorem below_grownN {w wr w2 : World} {e : TypeId} {v : Value} {n M : Nat} {xs : List Value} {o : Obj} (hown : wr.ownsRow w.heap.size e 1 v n xs) (hb : Below w.heap.size w wr) (hg : ((wr.alloc o).drewN M).grownBy w2 v.ownBlock) : Below w.heap.size w w2 :=
  below_grown hown hb (o := o) ⟨hg.os, hg.tape, hg.output, hg.size, hg.block⟩

/-- Eight words of a state lie in a row. -/
def Eight (w : World) (b : Nat) (s : St) : Prop := b < w.heap.size ∧ w.cell? ⟨b, 0, none⟩ = some (.int .i64 s.a.toNat) ∧ w.cell? ⟨b, 1, none⟩ = some (.int .i64 s.b.toNat) ∧ w.cell? ⟨b, 2, none⟩ = some (.int .i64 s.c.toNat) ∧ w.cell? ⟨b, 3, none⟩ = some (.int .i64 s.d.toNat) ∧
  w.cell? ⟨b, 4, none⟩ = some (.int .i64 s.e.toNat) ∧ w.cell? ⟨b, 5, none⟩ = some (.int .i64 s.f.toNat) ∧ w.cell? ⟨b, 6, none⟩ = some (.int .i64 s.g.toNat) ∧ w.cell? ⟨b, 7, none⟩ = some (.int .i64 s.h.toNat)
theorem Eight.below {w w' : World} {b : Nat} {s : St} (h : Eight w b s) (hb : Below w.heap.size w w') : Eight w' b s := by
  obtain ⟨h0, h1, h2, h3, h4, h5, h6, h7, h8⟩ := h
  have k : ∀ o, w'.cell? ⟨b, o, none⟩ = w.cell? ⟨b, o, none⟩ := fun o => hb.cell (p := ⟨b, o, none⟩) h0
  exact ⟨Nat.lt_of_lt_of_le h0 hb.size, by rw [k, h1], by rw [k, h2], by rw [k, h3], by rw [k, h4], by rw [k, h5], by rw [k, h6], by rw [k, h7], by rw [k, h8]⟩
theorem eight_own {w : World} {base n c g : Nat} {e : TypeId} {s : St} (h : w.ownsRow base e 1 (.slice (some ⟨g, 0, none⟩) n c) n ([] ++ iv s.list)) : Eight w g s := by
  obtain ⟨_, _, hv, _, hlt⟩ := h.form (by have := h.1; simp [iv, St.list] at this; omega)
  injection hv with hv _ _
  injection hv with hv
  injection hv with hv _ _
  subst hv
  have hl := h.1
  simp [iv, St.list] at hl
  have k : ∀ (j : Nat) (x : UInt32), s.list[j]? = some x → w.cell? ⟨g, j, none⟩ = some (.int .i64 x.toNat) := fun j x hx => by
    rw [h.cellAt j (by have := (List.getElem?_eq_some_iff.1 hx).1; simp [St.list] at this; omega)]
    simpa using iv_at hx
  exact ⟨hlt, k 0 _ rfl, k 1 _ rfl, k 2 _ rfl, k 3 _ rfl, k 4 _ rfl, k 5 _ rfl, k 6 _ rfl, k 7 _ rfl⟩
theorem i_not (x : UInt32) : IntKind.i64.wrap (4294967295 - (x.toNat : Int)) = ((~~~x).toNat : Int) := by
  have hx := lt32 x
  rw [wrap_in _ (by omega), UInt32.toNat_not]
  simp only [UInt32.size]
  omega
theorem i_bigE (x : UInt32) : bits .xor .i64 (bits .xor .i64 ((rotr x 6).toNat : Int) ((rotr x 11).toNat : Int)) ((rotr x 25).toNat : Int) = ((bigE x).toNat : Int) := by
  rw [i_xor, i_xor]; rfl
theorem i_bigA (x : UInt32) : bits .xor .i64 (bits .xor .i64 ((rotr x 2).toNat : Int) ((rotr x 13).toNat : Int)) ((rotr x 22).toNat : Int) = ((bigA x).toNat : Int) := by
  rw [i_xor, i_xor]; rfl
theorem word_of (z : Int) (X : UInt32) (h0 : 0 ≤ z) (h1 : z < 9223372036854775808) (hX : z % 4294967296 = (X.toNat : Int)) (w : World) :
    Calls Tryz.prog 127 #[.int .i64 z] w fun e w' => e = .returned (.int .i64 X.toNat) ∧ w = w' :=
  (word_any z h0 h1 w).mono fun e w' ⟨he, hw⟩ => ⟨by rw [he, hX], hw⟩
theorem row_cells {wv1 wx wq : World} {bk g n : Nat} {blk : List UInt8} (hn : n < 64) (hk : Wrd wx wx.heap.size (some ⟨bk, 0, none⟩) kWords) (hbx : Below wv1.heap.size wv1 wx) (hg : g < wv1.heap.size)
    (hw : ∀ t x, (sched blk)[t]? = some x → wv1.cell? ⟨g, t, none⟩ = some (.int .i64 x.toNat)) (hb : Below wx.heap.size wx wq) :
    ∃ K W, kWords[n]? = some K ∧ (sched blk)[n]? = some W ∧ wq.cell? ⟨bk, n, none⟩ = some (.int .i64 K.toNat) ∧ wq.cell? ⟨g, n, none⟩ = some (.int .i64 W.toNat) := by
  have hkl : n < kWords.length := by show n < 64; exact hn
  have hsl : n < (sched blk).length := by rw [sched_length]; exact hn
  refine ⟨kWords[n], (sched blk)[n], List.getElem?_eq_getElem hkl, List.getElem?_eq_getElem hsl, ?_, ?_⟩
  · obtain ⟨b, e, hlt, hc⟩ := hk (by decide)
    injection e with e
    injection e with e _ _
    subst e
    exact (hb.cell (p := ⟨bk, n, none⟩) hlt).trans (hc n _ (List.getElem?_eq_getElem hkl))
  · refine (hb.cell (p := ⟨g, n, none⟩) (Nat.lt_of_lt_of_le hg hbx.size)).trans ?_
    exact (hbx.cell (p := ⟨g, n, none⟩) hg).trans (hw n _ (List.getElem?_eq_getElem hsl))
theorem x_val (s : St) (K W N p q C E : UInt32) (hN : N = ~~~s.e) (hp : p = s.e &&& s.f) (hq : q = N &&& s.g) (hC : C = p ^^^ q) (hE : E = bigE s.e) (x : Nat) (hx : x = s.h.toNat + E.toNat + C.toNat + K.toNat + W.toNat) :
    x % 4294967296 = (xOf s K W).toNat := by
  subst hN hp hq hC hE hx
  simp only [xOf, choice, UInt32.toNat_add]
  omega
theorem y_val (s : St) (r1 r2 r3 r4 M F : UInt32) (h1 : r1 = s.a &&& s.b) (h2 : r2 = s.a &&& s.c) (h3 : r3 = r1 ^^^ r2) (h4 : r4 = s.b &&& s.c) (hM : M = r3 ^^^ r4) (hF : F = bigA s.a) (y : Nat) (hy : y = F.toNat + M.toNat) :
    y % 4294967296 = (yOf s).toNat := by
  subst h1 h2 h3 h4 hM hF hy
  simp only [yOf, major, UInt32.toNat_add]
theorem rounds_next {S T : St} {blk : List UInt8} {n : Nat} {K W : UInt32} (h : T = rounds S (sched blk) n) (hK : kWords[n]? = some K) (hW : (sched blk)[n]? = some W) : rounds S (sched blk) (n + 1) = step T K W := by
  rw [rounds, ← h]
  simp only [List.getD_eq_getElem?_getD, hK, hW, Option.getD_some]
theorem eight_new (w : World) (t : TypeId) (a b c d e f g h : UInt32) :
    Eight (w.alloc (.cells #[.int .i64 a.toNat, .int .i64 b.toNat, .int .i64 c.toNat, .int .i64 d.toNat, .int .i64 e.toNat, .int .i64 f.toNat, .int .i64 g.toNat, .int .i64 h.toNat] t)) w.heap.size ⟨a, b, c, d, e, f, g, h⟩ := by
  have k := fun j => cell_of_row _ w.heap.size j _ t (0, 0) (heap_alloc_new w (.cells #[.int .i64 a.toNat, .int .i64 b.toNat, .int .i64 c.toNat, .int .i64 d.toNat, .int .i64 e.toNat, .int .i64 f.toNat, .int .i64 g.toNat, .int .i64 h.toNat] t))
  exact ⟨by rw [World.size_alloc]; omega, k 0, k 1, k 2, k 3, k 4, k 5, k 6, k 7⟩
theorem eight_cell {w : World} {b : Nat} {s : St} (h : Eight w b s) (k : Nat) (x : UInt32) (hx : s.list[k]? = some x) : w.cell? ⟨b, k, none⟩ = some (.int .i64 x.toNat) := by
  obtain ⟨_, h0, h1, h2, h3, h4, h5, h6, h7⟩ := h
  have hk : k < 8 := (List.getElem?_eq_some_iff.1 hx).1
  have hc : k = 0 ∨ k = 1 ∨ k = 2 ∨ k = 3 ∨ k = 4 ∨ k = 5 ∨ k = 6 ∨ k = 7 := by omega
  rcases hc with rfl | rfl | rfl | rfl | rfl | rfl | rfl | rfl <;> (simp [St.list] at hx; subst hx; assumption)
theorem list_add {s t : St} {k : Nat} {x y : UInt32} (hx : s.list[k]? = some x) (hy : t.list[k]? = some y) : (addSt s t).list[k]? = some (x + y) := by
  have hk : k < 8 := (List.getElem?_eq_some_iff.1 hx).1
  have hc : k = 0 ∨ k = 1 ∨ k = 2 ∨ k = 3 ∨ k = 4 ∨ k = 5 ∨ k = 6 ∨ k = 7 := by omega
  rcases hc with rfl | rfl | rfl | rfl | rfl | rfl | rfl | rfl <;> (simp [St.list] at hx hy; subst hx hy; rfl)
set_option maxRecDepth 100000 in
set_option maxHeartbeats 4000000 in
theorem block_any (S : St) (A B : Option Addr) (blk : List UInt8) (c d : Nat) (hl : blk.length = 64) (_hc : 64 ≤ d) (w : World) (hS : Wrd w w.heap.size A S.list) (hb : Byt w w.heap.size B blk) :
    Calls Tryz.prog 103 #[.slice A 8 c, .slice B 64 d] w fun e w' => ∃ v, e = .returned v ∧ w'.ownsRow w.heap.size 3 1 v 8 (iv (compress S blk).list) ∧ Below w.heap.size w w' := by
  obtain ⟨i0, hi0, hz0, hz1, hz2⟩ := info_parts info_int
  obtain ⟨bs, rfl, hbs, hcs⟩ := hS (by simp [St.list])
  have HCS := hid hcs
  clear hcs hS
  go_enter Tryz.func103, Tryz.ntmps103
  go_wp2
  go_loopw [5, 6] (fun v i wr => ∃ k : Nat, k ≤ 16 ∧ i = .int .i64 k ∧ wr.ownsRow w.heap.size 3 1 v k (iv (first16 blk k)) ∧ Below w.heap.size w wr) (fun _ i _ => 16 - (intOf i).toNat)
  case atStart => exact ⟨0, by omega, rfl, World.ownsRow_nil _ _ _ _, Below.refl _ _⟩
  case round =>
    obtain ⟨k, hk, rfl, hown, hbel⟩ := hrel
    by_cases hlt : k < 16
    · obtain ⟨ad, x0, rfl, had, hx0, c0⟩ := (hb.below hbel).get (k := 4 * k) (by omega)
      obtain ⟨_, x1, he1, _, hx1, c1⟩ := (hb.below hbel).get (k := 4 * k + 1) (by omega)
      obtain rfl := Option.some.inj he1
      obtain ⟨_, x2, he2, _, hx2, c2⟩ := (hb.below hbel).get (k := 4 * k + 2) (by omega)
      obtain rfl := Option.some.inj he2
      obtain ⟨_, x3, he3, _, hx3, c3⟩ := (hb.below hbel).get (k := 4 * k + 3) (by omega)
      obtain rfl := Option.some.inj he3
      have HX := hid (And.intro hx0 (And.intro hx1 (And.intro hx2 hx3)))
      clear hx0 hx1 hx2 hx3 he1 he2 he3
      have b0 := lt8 x0
      have b1 := lt8 x1
      have b2 := lt8 x2
      have b3 := lt8 x3
      have hk0 : (0 : Int) ≤ (k : Int) := Int.natCast_nonneg _
      have hk1 : (k : Int) < 16 := by omega
      have q0 : (0 : Int) ≤ 4 * (k : Int) := by omega
      have q1 : 4 * (k : Int) < 64 := by omega
      have q2 : 4 * (k : Int) + 1 < 64 := by omega
      have q3 : 4 * (k : Int) + 2 < 64 := by omega
      have q4 : 4 * (k : Int) + 3 < 64 := by omega
      have q5 : (0 : Int) ≤ 4 * (k : Int) + 1 := by omega
      have q6 : (0 : Int) ≤ 4 * (k : Int) + 2 := by omega
      have q7 : (0 : Int) ≤ 4 * (k : Int) + 3 := by omega
      have e0 : IntKind.i64.wrap (4 * (k : Int)) = 4 * (k : Int) := IntWalk.i64_in _ (by omega)
      have e1 : IntKind.i64.wrap (4 * (k : Int) + 1) = 4 * (k : Int) + 1 := IntWalk.i64_in _ (by omega)
      have e2 : IntKind.i64.wrap (4 * (k : Int) + 2) = 4 * (k : Int) + 2 := IntWalk.i64_in _ (by omega)
      have e3 : IntKind.i64.wrap (4 * (k : Int) + 3) = 4 * (k : Int) + 3 := IntWalk.i64_in _ (by omega)
      have t0 : (4 * (k : Int)).toNat = 4 * k := by omega
      have t1 : (4 * (k : Int) + 1).toNat = 4 * k + 1 := by omega
      have t2 : (4 * (k : Int) + 2).toNat = 4 * k + 2 := by omega
      have t3 : (4 * (k : Int) + 3).toNat = 4 * k + 3 := by omega
      rw [add_pos _ _ (by omega)] at c1 c2 c3
      have hV := word4_wrap x0 x1 x2 x3
      obtain ⟨X, hX⟩ : ∃ X, X = word4 x0 x1 x2 x3 := ⟨_, rfl⟩
      rw [← hX] at hV
      have HX4 := hid hX
      clear hX
      go_wp2_with fail
      go_region_held3 (fun w' => w'.cell? (ad.add (4 * k)) = some (.int .u8 x0.toNat) ∧ w'.cell? ⟨ad.block, ad.off + (4 * k + 1), none⟩ = some (.int .u8 x1.toNat) ∧ w'.cell? ⟨ad.block, ad.off + (4 * k + 2), none⟩ = some (.int .u8 x2.toNat) ∧ w'.cell? ⟨ad.block, ad.off + (4 * k + 3), none⟩ = some (.int .u8 x3.toNat))
        (first | exact ⟨(hkp (ad.add (4 * k)) (by rw [block_add]; exact had)).trans c0, (hkp ⟨ad.block, ad.off + (4 * k + 1), none⟩ had).trans c1, (hkp ⟨ad.block, ad.off + (4 * k + 2), none⟩ had).trans c2, (hkp ⟨ad.block, ad.off + (4 * k + 3), none⟩ had).trans c3⟩ | go_keep)
        (first
          | (refine step_append_lies _ (by rfl) (.tmp 23) (.tmp 57) 106 (by rfl) w.heap.size 3 i0 (.int .i64 0) 1 8 Tryz.underlying106 hi0 hz0 hz1 hz2 rfl (by omega) u5 k (iv (first16 blk k)) (by rfl) ((hown.alloc _).drew) ⟨wr.heap.size, 0, none⟩ 1 1 [.int .i64 X.toNat] (by rfl) (by rfl) (World.news_of_block (cs := #[.int .i64 X.toNat]) (t := 3) (fr := (0, 0)) (heap_alloc_new wr _)) (one_one X) (by omega) (by unfold maxLen; omega) (by omega) (by have := hbel.size; simp; omega) (wr.heap.size + 1) (by simp) ?_; intro gg cap w2 hown2 hgrow _ _; have hkp : ∀ p : Addr, p.block < w.heap.size → w2.cell? p = wr.cell? p := fun p hp => cell_grown hown hbel hgrow hp)
          | fail)
      have hb2 := below_grown hown hbel hgrow
      have R : w2.ownsRow w.heap.size 3 1 (.slice (some ⟨gg, 0, none⟩) (k + 1) cap) (k + 1) (iv (first16 blk (k + 1))) := by
        have hx := HX.out
        rw [first16_succ hx.1 hx.2.1 hx.2.2.1 hx.2.2.2, iv_snoc, ← HX4.out]
        exact hown2
      clear hown2 hgrow hown hbel hV e0 e1 e2 e3 t0 t1 t2 t3 hkp c0 c1 c2 c3
      go_wp2
      go_roundw
      case rel => exact ⟨k + 1, by omega, by go_num, R, hb2⟩
      case measure => simp [intOf]; omega
    · have hk16 : (k : Int) = 16 := by omega
      rw [hk16]
      obtain rfl : k = 16 := by omega
      clear hk16
      have hown0 : wr.ownsRow w.heap.size 3 1 u5 (0 + 16) (iv (more blk 0)) := hown
      clear hown
      go_wp2
      go_loopw [5, 7] (fun v i wq => ∃ j : Nat, j ≤ 48 ∧ i = .int .i64 ((j : Int) + 16) ∧ wq.ownsRow w.heap.size 3 1 v (j + 16) (iv (more blk j)) ∧ Below w.heap.size w wq) (fun _ i _ => 64 - (intOf i).toNat)
      case atStart => exact ⟨0, by omega, rfl, hown0, hbel⟩
      case round =>
        clear hown0 hbel
        obtain ⟨j, hj, rfl, hown, hbel⟩ := hrel
        obtain ⟨g, cap, rfl, hg1, hg2⟩ := hown.form (by omega)
        by_cases hlt : j < 48
        · have hml := more_length blk j
          have hg : ∀ t, t < j + 16 → ∃ x, (more blk j)[t]? = some x := fun t ht => ⟨(more blk j)[t]'(by omega), List.getElem?_eq_getElem _⟩
          obtain ⟨xa, ha⟩ := hg j (by omega)
          obtain ⟨xb, hb'⟩ := hg (j + 1) (by omega)
          obtain ⟨xc, hc'⟩ := hg (j + 9) (by omega)
          obtain ⟨xd, hd'⟩ := hg (j + 14) (by omega)
          have hcell : ∀ t x, (more blk j)[t]? = some x → wr.cell? ⟨g, t, none⟩ = some (.int .i64 x.toNat) := fun t x hx => by
            have ht : t < j + 16 := by have := (List.getElem?_eq_some_iff.1 hx).1; omega
            rw [hown.cellAt t (by omega)]
            simp [iv, hx]
          have ca := hcell _ _ ha
          have cb := hcell _ _ hb'
          have cc := hcell _ _ hc'
          have cd := hcell _ _ hd'
          have HG := hid (And.intro ha (And.intro hb' (And.intro hc' hd')))
          clear ha hb' hc' hd' hg hml hcell
          have la := lt32 xa
          have lb := lt32 xb
          have lc := lt32 xc
          have ld := lt32 xd
          obtain ⟨s0, hs0⟩ : ∃ x, x = sig0 xb := ⟨_, rfl⟩
          obtain ⟨s1, hs1⟩ : ∃ x, x = sig1 xd := ⟨_, rfl⟩
          have k1 := i_sig0 xb
          have k2 := i_sig1 xd
          rw [← hs0] at k1
          rw [← hs1] at k2
          have l0 := lt32 s0
          have l1 := lt32 s1
          have HS := hid (And.intro hs0 hs1)
          clear hs0 hs1
          have hk0 : (0 : Int) ≤ (j : Int) := Int.natCast_nonneg _
          have hk1 : (j : Int) < 48 := by omega
          go_wp2_with fail
          go_quiet ((first | (go_at_call 126; exact quiet_dr (turned_int _ _ (by omega) (by omega) _)) | (go_at_call 104; exact quiet_left (moved_int _ _ (by omega) (by omega) _))))
          go_wp2_with fail
          go_quiet ((first | (go_at_call 126; exact quiet_add (turned_int _ _ (by omega) (by omega) _)) | (go_at_call 104; exact quiet_addl (moved_int _ _ (by omega) (by omega) _))))
          go_wp2_with fail
          obtain ⟨X, hX⟩ : ∃ X, X = xa + s0 + xc + s1 := ⟨_, rfl⟩
          have HWD := hid (word_sum4 xa s0 xc s1)
          rw [← hX] at HWD
          have HX4 := hid hX
          clear hX k1 k2
          have w1 : IntKind.i64.wrap ((xa.toNat : Int) + s0.toNat) = (xa.toNat : Int) + s0.toNat := IntWalk.i64_in _ (by omega)
          have w2 : IntKind.i64.wrap ((xa.toNat : Int) + s0.toNat + xc.toNat) = (xa.toNat : Int) + s0.toNat + xc.toNat := IntWalk.i64_in _ (by omega)
          have w3 : IntKind.i64.wrap ((xa.toNat : Int) + s0.toNat + xc.toNat + s1.toNat) = (xa.toNat : Int) + s0.toNat + xc.toNat + s1.toNat := IntWalk.i64_in _ (by omega)
          have e0 : IntKind.i64.wrap (j : Int) = (j : Int) := IntWalk.i64_in _ (by omega)
          have e1 : IntKind.i64.wrap ((j : Int) + 16 - 16) = (j : Int) := by rw [IntWalk.i64_in _ (by omega)]; omega
          have e2 : IntKind.i64.wrap ((j : Int) + 16 - 7) = (j : Int) + 9 := by rw [IntWalk.i64_in _ (by omega)]; omega
          have e3 : ((j : Int) + 9).toNat = j + 9 := by omega
          have b1 : (0 : Int) ≤ (j : Int) + 9 := by omega
          have b2 : (j : Int) + 9 < ((j + 16 : Nat) : Int) := by omega
          have b5 : (j : Int) < ((j + 16 : Nat) : Int) := by omega
          have b6 : (j : Int) < (j : Int) + 16 := by omega
          have b7 : (j : Int) + 16 - 16 = (j : Int) := by omega
          have hownA : ∀ M o, ((wr.drewN M).alloc o).ownsRow w.heap.size 3 1 (.slice (some ⟨g, 0, none⟩) (j + 16) cap) (j + 16) (iv (more blk j)) := fun M o => World.ownsRow.alloc (w := wr.drewN M) hown o
          have HOA := hid hownA
          clear hownA
          go_region_held3 (fun w' => w'.cell? ⟨g, j, none⟩ = some (.int .i64 xa.toNat) ∧ w'.cell? ⟨g, j + 9, none⟩ = some (.int .i64 xc.toNat))
            (first | exact ⟨hkp1, hkp2⟩ | go_keep)
            (first
              | (go_at_call 127; (with_reducible refine (HWD.out _).mono ?_); rintro er wq ⟨rfl, rfl⟩)
              | (refine step_append_keep _ (by rfl) (.tmp 103) (.tmp 120) 106 (by rfl) w.heap.size 3 i0 (.int .i64 0) 8 Tryz.underlying106 hi0 hz0 hz1 hz2 rfl g cap (j + 16) (iv (more blk j)) (by rfl) (HOA.out _ _) ⟨wr.heap.size, 0, none⟩ 1 1 [.int .i64 X.toNat] (by rfl) (by rfl) (World.news_of_block (cs := #[.int .i64 X.toNat]) (t := 3) (fr := (0, 0)) (heap_alloc_new (wr.drewN _) _)) (one_one X) (by omega) (by unfold maxLen; omega) (by omega) (le_alloc (w := wr.drewN _) hbel.size _) ?_; intro gg cap2 w2 hown2 hgrow hkeep; have hkp1 := hkeep j _ (iv_at HG.out.1); have hkp2 := hkeep (j + 9) _ (iv_at HG.out.2.2.1))
              | fail)
          have hb2 := below_keep hbel hgrow hg1
          have R : w2.ownsRow w.heap.size 3 1 (.slice (some ⟨gg, 0, none⟩) (j + 16 + 1) cap2) (j + 1 + 16) (iv (more blk (j + 1))) := by
            have hx := HG.out
            have hs := HS.out
            rw [more_next hx.1 hx.2.1 hx.2.2.1 hx.2.2.2, iv_snoc, ← hs.1, ← hs.2, ← HX4.out, show j + 1 + 16 = j + 16 + 1 by omega]
            exact hown2
          clear hown2 hgrow hown hbel hkeep hkp1 hkp2 w1 w3 e0 e1 e2 e3 ca cb cc cd
          go_wp2
          go_roundw
          case rel => exact ⟨j + 1, by omega, congrArg (Value.int .i64) (by omega), R, hb2⟩
          case measure => simp [intOf]; omega
        · have hj48 : (j : Int) = 48 := by omega
          rw [hj48]
          obtain rfl : j = 48 := by omega
          clear hj48
          have hsch : more blk 48 = sched blk := by unfold sched; rfl
          rw [hsch] at hown
          clear hsch
          have hnews : ∀ W, Below w.heap.size w W → Hid (∀ t u, (iv S.list)[t]? = some u → W.cell? ((⟨bs, 0, none⟩ : Addr).add t) = some u) := fun W hW => hid (fun t u hu => by
            obtain ⟨x, hx, rfl⟩ := iv_get hu
            have hadd : (⟨bs, 0, none⟩ : Addr).add t = ⟨bs, t, none⟩ := by unfold Addr.add; split <;> simp_all
            rw [hadd]
            exact (hW.cell (p := ⟨bs, t, none⟩) hbs).trans (HCS.out t x hx))
          go_wp2_with (at_builtin; go_loud (refine wpList_append_lies _ rfl (.tmp 122) (.tmp 123) 106 rfl w.heap.size 3 i0 (.int .i64 0) 1 8 Tryz.underlying106 hi0 hz0 hz1 hz2 rfl (by omega) (.slice none 0 0) 0 [] rfl (World.ownsRow_nil _ _ _ _) ⟨bs, 0, none⟩ 8 c (iv S.list) rfl rfl (hnews _ hbel).out (iv_one _) (by omega) (by decide) (by omega) hbel.size _ rfl ?_; intro gv capv wv1 hownv hgv _ _))
          have hn8 : 0 + 8 = 8 := rfl
          have hwtab := Wrd.of_own hown
          have hbv : Below w.heap.size w wv1 := hbel.grown hgv hbel.size (fun k hk => by cases hk)
          have hcw : ∀ t x, (sched blk)[t]? = some x → wv1.cell? ⟨g, t, none⟩ = some (.int .i64 x.toNat) := fun t x hx => by
            have ht : t < 64 := by have := (List.getElem?_eq_some_iff.1 hx).1; rwa [sched_length] at this
            have hc0 : wr.cell? ⟨g, t, none⟩ = some (.int .i64 x.toNat) := by rw [hown.cellAt t (by omega)]; exact iv_at hx
            exact hgv.cell hc0 (fun e => by cases e)
          have H8 : Eight wv1 gv S := eight_own hownv
          have hgs : g < wv1.heap.size := Nat.lt_of_lt_of_le hg2 hgv.size
          have HP := hid (And.intro hbv (And.intro hcw (And.intro H8 hgs)))
          clear hbv hcw H8 hgs hownv hgv hwtab hnews hown hbel hn8
          go_wp2_with fail
          refine (words_any wv1).mono ?_
          rintro er wx ⟨rfl, hKT, hbx⟩
          have HX := hid (And.intro hKT hbx)
          clear hKT hbx
          go_wp2
          go_loopw [10, 12] (fun v t wq => ∃ (n b cp : Nat), n ≤ 64 ∧ t = .int .i64 n ∧ v = .slice (some ⟨b, 0, none⟩) 8 cp ∧ Eight wq b (rounds S (sched blk) n) ∧ Below wx.heap.size wx wq) (fun _ t _ => 64 - (intOf t).toNat)
          case atStart => exact ⟨0, gv, capv, by omega, rfl, rfl, by unfold rounds; exact HP.out.2.2.1.below HX.out.2, Below.refl _ _⟩
          case round =>
            obtain ⟨n, b, cp, hn, rfl, rfl, H8, hbel⟩ := hrel
            by_cases hlt : n < 64
            · obtain ⟨T, hT⟩ : ∃ T, T = rounds S (sched blk) n := ⟨_, rfl⟩
              rw [← hT] at H8
              have HT := hid hT
              clear hT
              obtain ⟨Ta, Tb, Tc, Td, Te, Tf, Tg, Th⟩ := T
              obtain ⟨hbl, c0, c1, c2, c3, c4, c5, c6, c7⟩ := H8
              dsimp only at c0 c1 c2 c3 c4 c5 c6 c7
              obtain ⟨K, W, hK, hW, ck, cw⟩ := row_cells hlt HX.out.1 HX.out.2 HP.out.2.2.2 HP.out.2.1 hbel
              have HKW := hid (And.intro hK hW)
              clear hK hW
              have lk := lt32 K
              have lw := lt32 W
              have la := lt32 Ta
              have lb := lt32 Tb
              have lc := lt32 Tc
              have ld := lt32 Td
              have le := lt32 Te
              have lf := lt32 Tf
              have lg := lt32 Tg
              have lh := lt32 Th
              have hn0 : (0 : Int) ≤ (n : Int) := Int.natCast_nonneg _
              have hn1 : (n : Int) < 64 := by omega
              obtain ⟨N, hN⟩ : ∃ x, x = ~~~Te := ⟨_, rfl⟩
              obtain ⟨p, hp⟩ : ∃ x, x = Te &&& Tf := ⟨_, rfl⟩
              obtain ⟨q, hq⟩ : ∃ x, x = N &&& Tg := ⟨_, rfl⟩
              obtain ⟨C, hC⟩ : ∃ x, x = p ^^^ q := ⟨_, rfl⟩
              obtain ⟨E, hE⟩ : ∃ x, x = bigE Te := ⟨_, rfl⟩
              have k1 := i_not Te
              have k2 := i_and Te Tf
              have k3 := i_and N Tg
              have k4 := i_xor p q
              have k5 := i_bigE Te
              rw [← hN] at k1
              rw [← hp] at k2
              rw [← hq] at k3
              rw [← hC] at k4
              rw [← hE] at k5
              have k6 : 4294967295 - (Te.toNat : Int) = (N.toNat : Int) := by rw [← k1, wrap_in _ (by omega)]
              have lC := lt32 C
              have lE := lt32 E
              obtain ⟨x, hx⟩ : ∃ x : Nat, x = Th.toNat + E.toNat + C.toNat + K.toNat + W.toNat := ⟨_, rfl⟩
              have hxv := x_val ⟨Ta, Tb, Tc, Td, Te, Tf, Tg, Th⟩ K W N p q C E hN hp hq hC hE x hx
              have w1 : IntKind.i64.wrap ((Th.toNat : Int) + E.toNat) = (Th.toNat : Int) + E.toNat := wrap_in _ (by omega)
              have w2 : IntKind.i64.wrap ((Th.toNat : Int) + E.toNat + C.toNat) = (Th.toNat : Int) + E.toNat + C.toNat := wrap_in _ (by omega)
              have w3 : IntKind.i64.wrap ((Th.toNat : Int) + E.toNat + C.toNat + K.toNat) = (Th.toNat : Int) + E.toNat + C.toNat + K.toNat := wrap_in _ (by omega)
              have w4 : IntKind.i64.wrap ((Th.toNat : Int) + E.toNat + C.toNat + K.toNat + W.toNat) = (x : Int) := by rw [wrap_in _ (by omega)]; omega
              have lx : (x : Int) < 21474836480 := by omega
              have HXV := hid hxv
              clear hxv hx hN hp hq hC hE
              go_wp2_with fail
              go_quiet ((go_at_call 126; exact quiet_dr (turned_int _ _ (by omega) (by omega) _)))
              go_wp2_with fail
              clear k1 k2 k3 k4 k5 k6 w1 w2 w3 w4
              obtain ⟨r1, hr1⟩ : ∃ x, x = Ta &&& Tb := ⟨_, rfl⟩
              obtain ⟨r2, hr2⟩ : ∃ x, x = Ta &&& Tc := ⟨_, rfl⟩
              obtain ⟨r3, hr3⟩ : ∃ x, x = r1 ^^^ r2 := ⟨_, rfl⟩
              obtain ⟨r4, hr4⟩ : ∃ x, x = Tb &&& Tc := ⟨_, rfl⟩
              obtain ⟨M, hM⟩ : ∃ x, x = r3 ^^^ r4 := ⟨_, rfl⟩
              obtain ⟨F, hF⟩ : ∃ x, x = bigA Ta := ⟨_, rfl⟩
              have k1 := i_and Ta Tb
              have k2 := i_and Ta Tc
              have k3 := i_xor r1 r2
              have k4 := i_and Tb Tc
              have k5 := i_xor r3 r4
              have k6 := i_bigA Ta
              rw [← hr1] at k1
              rw [← hr2] at k2
              rw [← hr3] at k3
              rw [← hr4] at k4
              rw [← hM] at k5
              rw [← hF] at k6
              have lM := lt32 M
              have lF := lt32 F
              obtain ⟨y, hy⟩ : ∃ y : Nat, y = F.toNat + M.toNat := ⟨_, rfl⟩
              have ly : (y : Int) < 8589934592 := by omega
              have hyv := y_val ⟨Ta, Tb, Tc, Td, Te, Tf, Tg, Th⟩ r1 r2 r3 r4 M F hr1 hr2 hr3 hr4 hM hF y hy
              have w1 : IntKind.i64.wrap ((F.toNat : Int) + M.toNat) = (y : Int) := by rw [wrap_in _ (by omega)]; omega
              have HYV := hid hyv
              clear hyv hy hr1 hr2 hr3 hr4 hM hF
              go_quiet ((go_at_call 126; exact quiet_add (turned_int _ _ (by omega) (by omega) _)))
              go_wp2_with fail
              clear k1 k2 k3 k4 k5 k6 w1
              obtain ⟨X1, hX1⟩ : ∃ z, z = xOf ⟨Ta, Tb, Tc, Td, Te, Tf, Tg, Th⟩ K W + yOf ⟨Ta, Tb, Tc, Td, Te, Tf, Tg, Th⟩ := ⟨_, rfl⟩
              obtain ⟨X2, hX2⟩ : ∃ z, z = Td + xOf ⟨Ta, Tb, Tc, Td, Te, Tf, Tg, Th⟩ K W := ⟨_, rfl⟩
              have W1 := hid (word_of ((x : Int) + (y : Int)) X1 (by omega) (by omega) (by rw [hX1, UInt32.toNat_add, ← HXV.out, ← HYV.out]; omega))
              have W2 := hid (word_of ((Td.toNat : Int) + (x : Int)) X2 (by omega) (by omega) (by rw [hX2, UInt32.toNat_add, ← HXV.out]; omega))
              have w1 : IntKind.i64.wrap ((x : Int) + (y : Int)) = (x : Int) + (y : Int) := wrap_in _ (by omega)
              have w2 : IntKind.i64.wrap ((Td.toNat : Int) + (x : Int)) = (Td.toNat : Int) + (x : Int) := wrap_in _ (by omega)
              have HXX := hid (And.intro hX1 hX2)
              clear hX1 hX2
              go_region_held3 (fun w' => w'.cell? ⟨b, 0, none⟩ = some (.int .i64 Ta.toNat) ∧ w'.cell? ⟨b, 1, none⟩ = some (.int .i64 Tb.toNat) ∧ w'.cell? ⟨b, 2, none⟩ = some (.int .i64 Tc.toNat) ∧ w'.cell? ⟨b, 3, none⟩ = some (.int .i64 Td.toNat) ∧ w'.cell? ⟨b, 4, none⟩ = some (.int .i64 Te.toNat) ∧ w'.cell? ⟨b, 5, none⟩ = some (.int .i64 Tf.toNat) ∧ w'.cell? ⟨b, 6, none⟩ = some (.int .i64 Tg.toNat))
                (first | exact ⟨c0, c1, c2, c3, c4, c5, c6⟩ | go_keep)
                (first
                  | (go_at_call 127; (with_reducible refine (W1.out _).mono ?_); rintro er wq' ⟨rfl, rfl⟩)
                  | (go_at_call 127; (with_reducible refine (W2.out _).mono ?_); rintro er wq' ⟨rfl, rfl⟩)
                  | fail)
              all_goals
                clear w1 w2 c0 c1 c2 c3 c4 c5 c6 c7 ck cw
                go_wp2
                go_roundw
                case rel => exact ⟨n + 1, _, 8, by omega, by go_num, rfl, by rw [rounds_next HT.out HKW.out.1 HKW.out.2, step, ← HXX.out.1, ← HXX.out.2]; exact eight_new (wr.drewN _) _ _ _ _ _ _ _ _ _, (below_drewN hbel _).alloc (w := wr.drewN _) hbel.size _⟩
                case measure => simp [intOf]; omega
            · have hn64 : (n : Int) = 64 := by omega
              rw [hn64]
              obtain rfl : n = 64 := by omega
              clear hn64
              obtain ⟨R, hR⟩ : ∃ R, R = compress S blk := ⟨_, rfl⟩
              have hadd : R = addSt S (rounds S (sched blk) 64) := by rw [hR]; rfl
              have hcm : Hid (compress S blk = R) := hid hR.symm
              have hb0 : Below w.heap.size w wr := HP.out.1.trans ((HX.out.2.mono HP.out.1.size).trans (hbel.mono (Nat.le_trans HP.out.1.size HX.out.2.size)))
              obtain ⟨Z, hZ⟩ : ∃ Z, Z = rounds S (sched blk) 64 := ⟨_, rfl⟩
              rw [← hZ] at H8 hadd
              have HC := hid (eight_cell H8)
              have HD := hid hadd
              have hbl := H8.1
              clear hR hadd hZ H8 hbel HP HX
              obtain ⟨wy, hwy⟩ : ∃ wy, wy = wr := ⟨_, rfl⟩
              subst hwy
              have HCS' := hid (fun j x (h : S.list[j]? = some x) => (hb0.cell (p := ⟨bs, j, none⟩) hbs).trans (HCS.out j x h))
              have hbs' : bs < wy.heap.size := Nat.lt_of_lt_of_le hbs hb0.size
              clear HCS
              go_wp2
              go_loopw [17, 18] (fun o i wq => ∃ k : Nat, k ≤ 8 ∧ i = .int .i64 k ∧ wq.ownsRow wy.heap.size 3 1 o k (iv (R.list.take k)) ∧ Below wy.heap.size wy wq) (fun _ i _ => 8 - (intOf i).toNat)
              case atStart => exact ⟨0, by omega, rfl, World.ownsRow_nil _ _ _ _, Below.refl _ _⟩
              case round =>
                obtain ⟨k, hk8, rfl, hown, hbel⟩ := hrel
                by_cases hlt : k < 8
                · obtain ⟨X, hX⟩ : ∃ X, S.list[k]? = some X := ⟨S.list[k]'hlt, List.getElem?_eq_getElem _⟩
                  obtain ⟨Y, hY⟩ : ∃ Y, Z.list[k]? = some Y := ⟨Z.list[k]'hlt, List.getElem?_eq_getElem _⟩
                  have c1 := (hbel.cell (p := ⟨bs, k, none⟩) hbs').trans (HCS'.out k X hX)
                  have c2 := (hbel.cell (p := ⟨b, k, none⟩) hbl).trans (HC.out k Y hY)
                  have lX := lt32 X
                  have lY := lt32 Y
                  have HXY := hid (list_add hX hY)
                  clear hX hY
                  have hk0 : (0 : Int) ≤ (k : Int) := Int.natCast_nonneg _
                  have hk1 : (k : Int) < 8 := by omega
                  obtain ⟨V, hV⟩ : ∃ V, V = X + Y := ⟨_, rfl⟩
                  have W1 := hid (word_of ((X.toNat : Int) + (Y.toNat : Int)) V (by omega) (by omega) (by rw [hV, UInt32.toNat_add]; omega))
                  have w1 : IntKind.i64.wrap ((X.toNat : Int) + (Y.toNat : Int)) = (X.toNat : Int) + (Y.toNat : Int) := wrap_in _ (by omega)
                  have HV := hid hV
                  clear hV
                  go_wp2_with fail
                  go_region_held3 (fun w' => w'.cell? ⟨bs, k, none⟩ = some (.int .i64 X.toNat) ∧ w'.cell? ⟨b, k, none⟩ = some (.int .i64 Y.toNat))
                    (first | exact ⟨(hkp ⟨bs, k, none⟩ hbs').trans c1, (hkp ⟨b, k, none⟩ hbl).trans c2⟩ | go_keep)
                    (first
                      | (go_at_call 127; (with_reducible refine (W1.out _).mono ?_); rintro er wq' ⟨rfl, rfl⟩)
                      | (refine step_append_lies _ (by rfl) (.tmp 232) (.tmp 243) 106 (by rfl) wy.heap.size 3 i0 (.int .i64 0) 1 8 Tryz.underlying106 hi0 hz0 hz1 hz2 rfl (by omega) u17 k (iv (R.list.take k)) (by rfl) ((hown.alloc _).drew) ⟨wr.heap.size, 0, none⟩ 1 1 [.int .i64 V.toNat] (by rfl) (by rfl) (World.news_of_block (cs := #[.int .i64 V.toNat]) (t := 3) (fr := (0, 0)) (heap_alloc_new wr _)) (one_one V) (by omega) (by unfold maxLen; omega) (by omega) (by have := hbel.size; simp; omega) (wr.heap.size + 1) (by simp) ?_; intro gg cap w2 hown2 hgrow _ _; have hkp : ∀ p : Addr, p.block < wy.heap.size → w2.cell? p = wr.cell? p := fun p hp => cell_grown hown hbel hgrow hp)
                      | fail)
                  have hb2 := below_grown hown hbel hgrow
                  have R2 : w2.ownsRow wy.heap.size 3 1 (.slice (some ⟨gg, 0, none⟩) (k + 1) cap) (k + 1) (iv (R.list.take (k + 1))) := by
                    rw [take_snoc_of (HD.out ▸ HXY.out), iv_snoc, ← HV.out]
                    exact hown2
                  clear hown2 hgrow hown hbel hkp c1 c2 w1
                  go_wp2
                  go_roundw
                  case rel => exact ⟨k + 1, by omega, by go_num, R2, hb2⟩
                  case measure => simp [intOf]; omega
                · obtain rfl : k = 8 := by omega
                  have hfin := own_mono hown hb0.size
                  have htk : R.list.take 8 = R.list := rfl
                  rw [htk] at hfin
                  have hbf := hb0.trans (hbel.mono hb0.size)
                  have HF := hid (And.intro hfin hbf)
                  clear hfin hbf hown hbel htk
                  go_wp2
                  go_ret
                  rw [hcm.out]
                  exact ⟨_, rfl, HF.out.1, HF.out.2⟩
end Go.Proofs.YtaadmgbmaekicaaGreatDoor.Sh
