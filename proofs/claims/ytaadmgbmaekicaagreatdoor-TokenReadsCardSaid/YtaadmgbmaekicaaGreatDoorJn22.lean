/-
  The document's own side: what its numbers below 2 to the 32 come to, and slices of them in memory.
-/
import Derived.Test.YtaadmgbmaekicaaGreatDoorJn17
import Derived.ArgAppend
set_option linter.unusedVariables false
set_option linter.unusedSimpArgs false
namespace Go.Proofs.YtaadmgbmaekicaaGreatDoor.Sh
open Go Go.RowKit

theorem word4_nat (a b c d : UInt8) : (word4 a b c d).toNat = 16777216 * a.toNat + 65536 * b.toNat + 256 * c.toNat + d.toNat := by
  have ha := lt8 a
  have hb := lt8 b
  have hc := lt8 c
  have hd := lt8 d
  have s : ∀ (x : UInt8) (n : Nat), n ≤ 24 → (x.toUInt32 <<< UInt32.ofNat n).toNat = x.toNat * 2 ^ n := fun x n hn => by
    have hx := lt8 x
    have h1 : (UInt32.ofNat n).toNat = n := by rw [UInt32.toNat_ofNat']; exact Nat.mod_eq_of_lt (by omega)
    rw [UInt32.toNat_shiftLeft, h1, toU32, Nat.mod_eq_of_lt (show n < 32 by omega), Nat.shiftLeft_eq]
    refine Nat.mod_eq_of_lt ?_
    have : 2 ^ n ≤ 2 ^ 24 := Nat.pow_le_pow_right (by omega) hn
    calc x.toNat * 2 ^ n ≤ 255 * 2 ^ 24 := Nat.mul_le_mul (by omega) this
      _ < 2 ^ 32 := by decide
  have e24 := s a 24 (by omega)
  have e16 := s b 16 (by omega)
  have e8 := s c 8 (by omega)
  show (a.toUInt32 <<< UInt32.ofNat 24 ||| b.toUInt32 <<< UInt32.ofNat 16 ||| c.toUInt32 <<< UInt32.ofNat 8 ||| d.toUInt32).toNat = _
  rw [UInt32.toNat_or, UInt32.toNat_or, UInt32.toNat_or, e24, e16, e8, toU32]
  rw [nat_join 24 (a.toNat * 2 ^ 24) (b.toNat * 2 ^ 16) (by omega) (by omega), nat_join 16 _ (c.toNat * 2 ^ 8) (by omega) (by omega), nat_join 8 _ d.toNat (by omega) (by omega)]
  omega

theorem word4_wrap (a b c d : UInt8) :
    IntKind.i64.wrap (IntKind.i64.wrap (IntKind.i64.wrap (IntKind.i64.wrap (16777216 * IntKind.i64.wrap (a.toNat : Int)) + IntKind.i64.wrap (65536 * IntKind.i64.wrap (b.toNat : Int))) +
      IntKind.i64.wrap (256 * IntKind.i64.wrap (c.toNat : Int))) + IntKind.i64.wrap (d.toNat : Int)) = ((word4 a b c d).toNat : Int) := by
  have ha := lt8 a
  have hb := lt8 b
  have hc := lt8 c
  have hd := lt8 d
  rw [word4_nat, wrap_in (a.toNat : Int) (by omega), wrap_in (b.toNat : Int) (by omega), wrap_in (c.toNat : Int) (by omega), wrap_in (d.toNat : Int) (by omega),
    wrap_in (16777216 * (a.toNat : Int)) (by omega), wrap_in (65536 * (b.toNat : Int)) (by omega), wrap_in (256 * (c.toNat : Int)) (by omega),
    wrap_in (16777216 * (a.toNat : Int) + 65536 * (b.toNat : Int)) (by omega), wrap_in (16777216 * (a.toNat : Int) + 65536 * (b.toNat : Int) + 256 * (c.toNat : Int)) (by omega), wrap_in _ (by omega)]
  omega
theorem ofInt_i64 (a : Nat) (ha : a < 9223372036854775808) : (BitVec.ofInt 64 (a : Int)).toNat = a := by
  rw [BitVec.ofInt_natCast, BitVec.toNat_ofNat]; exact Nat.mod_eq_of_lt (by omega)
theorem i_xor (x y : UInt32) : bits .xor .i64 (x.toNat : Int) (y.toNat : Int) = ((x ^^^ y).toNat : Int) := by
  have hx := lt32 x
  have hy := lt32 y
  have h : x.toNat ^^^ y.toNat < 2 ^ 32 := Nat.xor_lt_two_pow hx hy
  show IntKind.i64.wrap ((BitVec.ofInt 64 (x.toNat : Int) ^^^ BitVec.ofInt 64 (y.toNat : Int)).toNat : Int) = _
  rw [BitVec.toNat_xor, ofInt_i64 _ (by omega), ofInt_i64 _ (by omega), UInt32.toNat_xor]
  exact wrap_in _ (by omega)
theorem i_and (x y : UInt32) : bits .and .i64 (x.toNat : Int) (y.toNat : Int) = ((x &&& y).toNat : Int) := by
  have hx := lt32 x
  have hy := lt32 y
  have h : x.toNat &&& y.toNat < 2 ^ 32 := Nat.and_lt_two_pow _ hy
  show IntKind.i64.wrap ((BitVec.ofInt 64 (x.toNat : Int) &&& BitVec.ofInt 64 (y.toNat : Int)).toNat : Int) = _
  rw [BitVec.toNat_and, ofInt_i64 _ (by omega), ofInt_i64 _ (by omega), UInt32.toNat_and]
  exact wrap_in _ (by omega)
theorem i_sig0 (x : UInt32) : bits .xor .i64 (bits .xor .i64 ((rotr x 7).toNat : Int) ((rotr x 18).toNat : Int)) ((x.toNat : Int) / 8) = ((sig0 x).toNat : Int) := by
  rw [i_xor, shr_u32 x 3 8 (by omega) (by decide), i_xor]; rfl
theorem i_sig1 (x : UInt32) : bits .xor .i64 (bits .xor .i64 ((rotr x 17).toNat : Int) ((rotr x 19).toNat : Int)) ((x.toNat : Int) / 1024) = ((sig1 x).toNat : Int) := by
  rw [i_xor, shr_u32 x 10 1024 (by omega) (by decide), i_xor]; rfl
theorem turned_int (x : UInt32) (z : Int) (h0 : 0 < z) (hz : z < 32) (w : World) :
    Calls Tryz.prog 126 #[.int .i64 x.toNat, .int .i64 z] w fun e w' => e = .returned (.int .i64 (rotr x z.toNat).toNat) ∧ ∃ k, w' = w.drewN k := by
  obtain ⟨n, rfl⟩ := Int.eq_ofNat_of_zero_le (Int.le_of_lt h0)
  exact turned_any x n (by omega) (by omega) w
theorem moved_int (x : UInt32) (z : Int) (h0 : 0 ≤ z) (hz : z < 64) (w : World) :
    Calls Tryz.prog 104 #[.int .i64 x.toNat, .int .i64 z] w fun e w' => e = .returned (.int .i64 ((x.toNat : Int) / 2 ^ z.toNat)) ∧ w = w' := by
  obtain ⟨n, rfl⟩ := Int.eq_ofNat_of_zero_le h0
  have hx := lt32 x
  refine (moved_any x.toNat n (by omega) (by omega) w).mono fun e w' ⟨he, hw⟩ => ⟨?_, hw⟩
  rw [he]
  exact ret_int (by simp)
/-- Words as cells of ints. -/
def iv (l : List UInt32) : List Value := l.map fun x => Value.int .i64 x.toNat
theorem iv_length (l : List UInt32) : (iv l).length = l.length := by simp [iv]
theorem iv_one (l : List UInt32) : ∀ u ∈ iv l, u.oneCell' = true := by
  intro u hu
  obtain ⟨_, _, rfl⟩ := List.mem_map.1 hu
  rfl
theorem iv_append (a b : List UInt32) : iv (a ++ b) = iv a ++ iv b := by simp [iv]
theorem iv_get {l : List UInt32} {j : Nat} {u : Value} (h : (iv l)[j]? = some u) : ∃ x, l[j]? = some x ∧ u = .int .i64 x.toNat := by
  simp only [iv, List.getElem?_map, Option.map_eq_some_iff] at h
  obtain ⟨x, hx, rfl⟩ := h
  exact ⟨x, hx, rfl⟩
theorem info_int : (Tryz.prog.info? 3).map (fun i => (i.zero, i.size, i.bytes)) = some (some (.int .i64 0), 1, 8) := by kernel_rfl

/-- A: where the words l lie as ints, below block B. -/
def Wrd (w : World) (B : Nat) (A : Option Addr) (l : List UInt32) : Prop :=
  0 < l.length → ∃ b, A = some ⟨b, 0, none⟩ ∧ b < B ∧ ∀ j x, l[j]? = some x → w.cell? ⟨b, j, none⟩ = some (.int .i64 x.toNat)
theorem Wrd.below {w w' : World} {B : Nat} {A : Option Addr} {l : List UInt32} (h : Wrd w B A l) (hb : Below B w w') : Wrd w' B A l := fun hn => by
  obtain ⟨b, e, hlt, hc⟩ := h hn
  exact ⟨b, e, hlt, fun j x hx => (hb.cell (p := ⟨b, j, none⟩) hlt).trans (hc j x hx)⟩
theorem Wrd.more {w : World} {B B' : Nat} {A : Option Addr} {l : List UInt32} (h : Wrd w B A l) (hB : B ≤ B') : Wrd w B' A l := fun hn => by
  obtain ⟨b, e, hlt, hc⟩ := h hn
  exact ⟨b, e, by omega, hc⟩
theorem Wrd.of_own {w : World} {base n c : Nat} {e : TypeId} {A : Option Addr} {l : List UInt32} (h : w.ownsRow base e 1 (.slice A n c) n (iv l)) : Wrd w w.heap.size A l := fun hn => by
  have hl : n = l.length := by have := h.1; rw [iv_length] at this; omega
  obtain ⟨g, cap, hv, _, hlt⟩ := h.form (by omega)
  have hA : A = some ⟨g, 0, none⟩ := by injection hv
  subst hA
  refine ⟨g, rfl, hlt, fun j x hx => ?_⟩
  have := h.cells (g := g) rfl j (.int .i64 x.toNat) (by simp [iv, hx])
  have hadd : (⟨g, 0, none⟩ : Addr).add j = ⟨g, j, none⟩ := by unfold Addr.add; split <;> simp_all
  rwa [hadd] at this

def TabI : List Value := iv kWords
set_option maxHeartbeats 400000 in
theorem words_any (w : World) : Calls Tryz.prog 128 #[] w fun e w' => e = .returned (.slice (some ⟨w.heap.size, 0, none⟩) 64 64) ∧ Wrd w' w'.heap.size (some ⟨w.heap.size, 0, none⟩) kWords ∧ Below w.heap.size w w' := by
  go_enter Tryz.func128, Tryz.ntmps128
  go_wp2
  go_ret
  refine ⟨rfl, fun _ => ⟨w.heap.size, rfl, by simp, fun j x hx => ?_⟩, (Below.refl _ _).alloc (Nat.le_refl _) _⟩
  refine (cell_of_row _ w.heap.size j (iv kWords).toArray 3 (0, 0) (heap_alloc_new w _)).trans ?_
  simp [iv, hx]
end Go.Proofs.YtaadmgbmaekicaaGreatDoor.Sh
/-
  append to a row of the call's own, once more: besides what the library tells, what the old row held is still there (a region whose loads read that very row asks it).
-/
namespace Go.Proofs.YtaadmgbmaekicaaGreatDoor.Sh
open Go Go.RowKit

theorem own_mono {w : World} {b b' : Nat} {e : TypeId} {size n : Nat} {v : Value} {xs : List Value} (h : w.ownsRow b e size v n xs) (hb : b' ≤ b) : w.ownsRow b' e size v n xs :=
  ⟨h.1, h.2.imp id fun ⟨g, cap, cur, hv, hg, r⟩ => ⟨g, cap, cur, hv, Nat.le_trans hb hg, r⟩⟩

section
variable {P : Program} (w : World)
theorem run_append_keep (t ty : TypeId) (base : Nat) (e : TypeId) (i : TypeInfo) (z : Value) (bytes : Nat) (ht : P.underlying t = some (.slice e)) (hi : P.info? e = some i) (hz : i.zero = some z)
    (hsize : i.size = 1) (hby : i.bytes = bytes) (hzs : z.cells.size = 1)
    (g0 cap0 n : Nat) (xs : List Value) (hown : w.ownsRow base e 1 (.slice (some ⟨g0, 0, none⟩) n cap0) n xs)
    (ad : Addr) (m c : Nat) (news : List Value) (hl : news.length = m * 1) (hnews : ∀ j u, news[j]? = some u → w.cell? (ad.add j) = some u) (h1 : ∀ u ∈ news, u.oneCell' = true)
    (hm : 0 < m) (h63 : n + m ≤ maxLen) (hbytes : (n + m) * bytes ≤ 140737488355328) (hbase : base ≤ w.heap.size) :
    ∃ g cap w', (Builtin.append_ #[t, t] ty #[.slice (some ⟨g0, 0, none⟩) n cap0, .slice (some ad) m c]).run P w = .ok (.slice (some ⟨g, 0, none⟩) (n + m) cap) w' ∧
      w'.ownsRow base e 1 (.slice (some ⟨g, 0, none⟩) (n + m) cap) (n + m) (xs ++ news) ∧ w.grownBy w' (some g0) ∧ (∀ j u, xs[j]? = some u → w'.cell? ⟨g0, j, none⟩ = some u) := by
  by_cases hroom : n + m ≤ cap0
  · obtain ⟨w', hr, ho, hg⟩ := run_append_fits (P := P) w base t ty e i 1 ht hi hsize g0 n cap0 xs hown ad m c news hl hnews h1 hroom
    refine ⟨g0, cap0, w', hr, ho, hg, fun j u hu => ?_⟩
    have hj : j < xs.length := (List.getElem?_eq_some_iff.1 hu).1
    have hx := hown.1
    rw [ho.cellAt j (by omega), List.getElem?_append_left hj, hu]
  · obtain ⟨v', w', hr, ho, hg⟩ := run_append_arg_grows (P := P) w t ty e i z 1 bytes ht hi hz hsize hby hzs (by omega) ⟨g0, 0, none⟩ n cap0 xs hown.1 (fun j u hu => hown.cells (g := g0) rfl j u hu) ad m c news hl hnews (by omega) h63 hbytes
    obtain ⟨g, cap, rfl, _, _⟩ := ho.form (by omega)
    refine ⟨g, cap, w', hr, own_mono ho hbase, ⟨hg.os, hg.tape, hg.output, hg.size, fun k hk _ => hg.block k hk (by simp)⟩, fun j u hu => ?_⟩
    have hc : w.cell? ⟨g0, j, none⟩ = some u := by
      have hj : j < xs.length := (List.getElem?_eq_some_iff.1 hu).1
      have hx := hown.1
      rw [hown.cellAt j (by omega), hu]
    exact hg.cell hc (by simp)

theorem wp_append_keep {o : Oper} {a : Act} {K : Act → World → Prop} {Q : Exit → Act → World → Prop} (s x : Operand) (t : TypeId)
    (ho : o.op = .call { callee := .builtin .append, args := #[s, x], argTypes := #[t, t] })
    (base : Nat) (e : TypeId) (i : TypeInfo) (z : Value) (bytes : Nat) (ht : P.underlying t = some (.slice e)) (hi : P.info? e = some i) (hz : i.zero = some z)
    (hsize : i.size = 1) (hby : i.bytes = bytes) (hzs : z.cells.size = 1)
    (g0 cap0 n : Nat) (xs : List Value) (hs : a.eval s = .slice (some ⟨g0, 0, none⟩) n cap0) (hown : w.ownsRow base e 1 (.slice (some ⟨g0, 0, none⟩) n cap0) n xs)
    (ad : Addr) (m c : Nat) (news : List Value) (hx : a.eval x = .slice (some ad) m c) (hl : news.length = m * 1) (hnews : ∀ j u, news[j]? = some u → w.cell? (ad.add j) = some u) (h1 : ∀ u ∈ news, u.oneCell' = true)
    (hm : 0 < m) (h63 : n + m ≤ maxLen) (hbytes : (n + m) * bytes ≤ 140737488355328) (hbase : base ≤ w.heap.size)
    (h : ∀ g cap w', w'.ownsRow base e 1 (.slice (some ⟨g, 0, none⟩) (n + m) cap) (n + m) (xs ++ news) → w.grownBy w' (some g0) → (∀ j u, xs[j]? = some u → w'.cell? ⟨g0, j, none⟩ = some u) → K (a.put o.dst (.slice (some ⟨g, 0, none⟩) (n + m) cap)) w') : o.wp P a w K Q := by
  obtain ⟨g, cap, w', hr, h2, h3, h4⟩ := run_append_keep (P := P) w t o.type base e i z bytes ht hi hz hsize hby hzs g0 cap0 n xs hown ad m c news hl hnews h1 hm h63 hbytes hbase
  unfold Oper.wp execOp
  simp only [ho, resolve, invoke, builtin, Sem.run_bind, Sem.run_pure, Result.andThen_ok, List.map_toArray, List.map_cons, List.map_nil, hs, hx, hr]
  exact h g cap w' h2 h3 h4

/-- At a step of a region that draws its order. -/
theorem step_append_keep {ops : Array Oper} {o : Oper} {a : Act} {K : Act → World → Prop} {Q : Exit → Act → World → Prop} {E : Prop} (hgd : o.guard = none) (s x : Operand) (t : TypeId)
    (ho : o.op = .call { callee := .builtin .append, args := #[s, x], argTypes := #[t, t] })
    (base : Nat) (e : TypeId) (i : TypeInfo) (z : Value) (bytes : Nat) (ht : P.underlying t = some (.slice e)) (hi : P.info? e = some i) (hz : i.zero = some z)
    (hsize : i.size = 1) (hby : i.bytes = bytes) (hzs : z.cells.size = 1)
    (g0 cap0 n : Nat) (xs : List Value) (hs : a.eval s = .slice (some ⟨g0, 0, none⟩) n cap0) (hown : w.ownsRow base e 1 (.slice (some ⟨g0, 0, none⟩) n cap0) n xs)
    (ad : Addr) (m c : Nat) (news : List Value) (hx : a.eval x = .slice (some ad) m c) (hl : news.length = m * 1) (hnews : ∀ j u, news[j]? = some u → w.cell? (ad.add j) = some u) (h1 : ∀ u ∈ news, u.oneCell' = true)
    (hm : 0 < m) (h63 : n + m ≤ maxLen) (hbytes : (n + m) * bytes ≤ 140737488355328) (hbase : base ≤ w.heap.size)
    (h : ∀ g cap w', w'.ownsRow base e 1 (.slice (some ⟨g, 0, none⟩) (n + m) cap) (n + m) (xs ++ news) → w.grownBy w' (some g0) → (∀ j u, xs[j]? = some u → w'.cell? ⟨g0, j, none⟩ = some u) → K (a.put o.dst (.slice (some ⟨g, 0, none⟩) (n + m) cap)) w') :
    if Region.wanted o (yielded ops a.tmps) = true then Oper.wp P o a w K Q else E := by
  have hw : Region.wanted o (yielded ops a.tmps) = true := by simp [Region.wanted, hgd]
  rw [if_pos hw]
  exact wp_append_keep w s x t ho base e i z bytes ht hi hz hsize hby hzs g0 cap0 n xs hs hown ad m c news hx hl hnews h1 hm h63 hbytes hbase h
end
end Go.Proofs.YtaadmgbmaekicaaGreatDoor.Sh
