/-
  The document's own Number and Text.
-/
import Derived.Test.YtaadmgbmaekicaaDoorJk3
set_option linter.unusedVariables false
set_option linter.unusedSimpArgs false
namespace Go.Proofs.YtaadmgbmaekicaaDoor.Sh
open Go Go.RowKit

theorem rem_byte (m : Nat) : ∃ x : UInt8, x = UInt8.ofNat (m % 256) ∧ (m : Int) % 256 = (x.toNat : Int) := ⟨_, rfl, by rw [ofNat_mod]; omega⟩

set_option maxHeartbeats 2000000 in
theorem refNumber_any (A : Option Addr) (l : List UInt8) (z : Int) (n c : Nat) (hn : l.length = n) (hL : n ≤ 1099511627776)
    (hz : z < 9223372036854775808) (hz0 : -9223372036854775808 ≤ z) (w : World) (hb : Byt w w.heap.size A l) :
    Calls Tryd.prog 89 #[.slice A n c, .int .i64 z] w fun e w' => Puts w w' e l (enc z.toNat) := by
  obtain ⟨Z, hZ⟩ : ∃ Z, Z = z.toNat := ⟨_, rfl⟩
  rw [← hZ]
  have hZ2 : Z < 9223372036854775808 := by omega
  have HN := hid hn
  go_enter Tryd.func89, Tryd.ntmps89
  rcases Int.lt_or_le z 0 with h0 | h0
  · have hZ0 := hid (show Z = 0 by omega)
    clear hZ
    go_wp2
    go_loopw [1, 5] (fun x d wr => ∃ (m k cd : Nat) (Ad : Option Addr) (dg : List UInt8), x = .int .i64 m ∧ d = .slice Ad k cd ∧ m < 9223372036854775808 ∧ k ≤ 8 ∧ Hid (be Z = be m ++ dg) ∧ OwnB wr w.heap.size (.slice Ad k cd) k dg ∧ Below w.heap.size w wr) (fun x _ _ => (intOf x).toNat)
    case atStart => exact ⟨Z, 0, 0, none, [], by rw [hZ0.out]; rfl, rfl, hZ2, by omega, hid (by simp), OwnB.nil _ _, Below.refl _ _⟩
    case round =>
      obtain ⟨m, k, cd, Ad, dg, rfl, rfl, hm, hk8, hbe, own, bel⟩ := hrel
      by_cases hpos : 0 < m
      · have hz : (0 : Int) < (m : Int) := by omega
        obtain ⟨x, hx, hxv⟩ := rem_byte m
        have HXV := hid hxv
        have HB := hid (be_pos hpos)
        have HX := hid hx
        have hk7 : k + 1 ≤ 8 := by
          have h1 := hbe.out
          have h2 := be_len8 hZ2
          have h3 := own.len
          have h4 := be_len_pos hpos
          rw [h1, List.length_append] at h2
          omega
        have y1 := own.byt
        have hdl := hid own.len
        clear hx hxv own
        have et : (m : Int).tmod 256 = (m : Int) % 256 := Int.tmod_eq_emod_of_nonneg (by omega)
        have ed : (m : Int).tdiv 256 = (m : Int) / 256 := Int.tdiv_eq_ediv_of_nonneg (by omega)
        go_wp2_with (at_builtin; first
          | (refine wpList_appB rfl (.tmp 12) (.tmp 16) rfl wr.heap.size (.slice none 0 0) 0 [] (OwnB.nil _ _) rfl (some ⟨wr.heap.size, 0, none⟩) 1 1 [x] rfl rfl (reads_byte wr _ x HXV.out _ _) (by omega) (by rw [World.size_alloc]; omega) wr ((Below.refl _ _).alloc (Nat.le_refl _) _) 1 rfl ?_; intro A2 c2 w2 o2 _ b2)
          | (refine wpList_appB rfl (.tmp 18) (.tmp 19) rfl wr.heap.size (.slice A2 1 c2) 1 _ o2 rfl Ad k cd dg rfl hdl.out (y1.below b2).reads (by omega) b2.size wr b2 (k + 1) (by omega) ?_; intro A3 c3 w3 o3 _ b3; clear o2 b2 y1))
        have b4 : Below w.heap.size w w3 := bel.trans (b3.mono bel.size)
        have o4 := hid (OwnB.mono o3 bel.size)
        have HS : Hid (be Z = be (m / 256) ++ ([] ++ [x] ++ dg)) := hid (by rw [hbe.out, HB.out, HX.out]; simp)
        clear o3 b3 bel
        go_roundw
        case rel => exact ⟨m / 256, k + 1, c3, A3, _, by go_num, rfl, by omega, hk7, HS, o4.out, b4⟩
        case measure => simp [intOf]; omega
      · obtain rfl : m = 0 := by omega
        have HZB : Hid (be Z = dg) := hid (by have := hbe.out; rwa [be_zero, List.nil_append] at this)
        have hkl := own.len
        have HKL := hid hkl
        have y1 := own.byt
        have y2 := hb.below bel
        obtain ⟨dx, hdx⟩ : ∃ x : UInt8, x = UInt8.ofNat k := ⟨_, rfl⟩
        have hdz : (k : Int) = (dx.toNat : Int) := by rw [hdx, UInt8.toNat_ofNat', Nat.mod_eq_of_lt (by omega)]
        have HDX := hid hdx
        have HDZ := hid hdz
        have d1 : IntKind.u8.wrap (k : Int) = (k : Int) := by rw [IntKind.wrap_u8']; omega
        clear own hdx hdz hkl hbe
        go_wp2_with (at_builtin; first
          | (refine wpList_appB rfl (.tmp 24) (.tmp 25) rfl wr.heap.size (.slice none 0 0) 0 [] (OwnB.nil _ _) rfl A n c l rfl HN.out (y2.more bel.size).reads (by omega) (Nat.le_refl _) wr (Below.refl _ _) n (by omega) ?_; intro A2 c2 w2 o2 _ b2)
          | (refine wpList_appB rfl (.tmp 27) (.tmp 31) rfl wr.heap.size (.slice A2 n c2) n _ (OwnB.alloc o2 _) rfl (some ⟨w2.heap.size, 0, none⟩) 1 1 [dx] rfl rfl (reads_byte w2 _ dx (by rw [← HDZ.out]) _ _) (by omega) (le_alloc b2.size _) wr (b2.alloc b2.size _) (n + 1) (by omega) ?_; intro A3 c3 w3 o3 _ b3; clear o2 b2)
          | (refine wpList_appB rfl (.tmp 33) (.tmp 34) rfl wr.heap.size (.slice A3 (n + 1) c3) (n + 1) _ o3 rfl Ad k cd dg rfl HKL.out (y1.below b3).reads (by omega) b3.size wr b3 (n + 1 + k) (by omega) ?_; intro A4 c4 w4 o4 _ b4; clear o3 b3))
        have h1 := OwnB.cap o4
        have h2 := OwnB.cap_max o4
        have O4 := hid (OwnB.mono o4 bel.size)
        have B4 : Below w.heap.size w w4 := bel.trans (b4.mono bel.size)
        have HE : Hid (enc Z = [dx] ++ dg) := hid (by rw [enc, HZB.out, HKL.out, HDX.out]; rfl)
        clear o4 b4 bel
        go_ret
        refine ⟨A4, c4, _, rfl, ?_, h1, h2, ?_, B4⟩
        · rw [HE.out, HN.out, List.length_append, HKL.out]; simp; omega
        · rw [HE.out, ← List.append_assoc]; simpa using O4.out
  · have hZc : z = (Z : Int) := by omega
    clear hZ
    subst hZc
    have h00 : ¬ ((Z : Int) < 0) := by omega
    go_wp2
    go_loopw [1, 5] (fun x d wr => ∃ (m k cd : Nat) (Ad : Option Addr) (dg : List UInt8), x = .int .i64 m ∧ d = .slice Ad k cd ∧ m < 9223372036854775808 ∧ k ≤ 8 ∧ Hid (be Z = be m ++ dg) ∧ OwnB wr w.heap.size (.slice Ad k cd) k dg ∧ Below w.heap.size w wr) (fun x _ _ => (intOf x).toNat)
    case atStart => exact ⟨Z, 0, 0, none, [], rfl, rfl, hZ2, by omega, hid (by simp), OwnB.nil _ _, Below.refl _ _⟩
    case round =>
      obtain ⟨m, k, cd, Ad, dg, rfl, rfl, hm, hk8, hbe, own, bel⟩ := hrel
      by_cases hpos : 0 < m
      · have hz : (0 : Int) < (m : Int) := by omega
        obtain ⟨x, hx, hxv⟩ := rem_byte m
        have HXV := hid hxv
        have HB := hid (be_pos hpos)
        have HX := hid hx
        have hk7 : k + 1 ≤ 8 := by
          have h1 := hbe.out
          have h2 := be_len8 hZ2
          have h3 := own.len
          have h4 := be_len_pos hpos
          rw [h1, List.length_append] at h2
          omega
        have y1 := own.byt
        have hdl := hid own.len
        clear hx hxv own
        have et : (m : Int).tmod 256 = (m : Int) % 256 := Int.tmod_eq_emod_of_nonneg (by omega)
        have ed : (m : Int).tdiv 256 = (m : Int) / 256 := Int.tdiv_eq_ediv_of_nonneg (by omega)
        go_wp2_with (at_builtin; first
          | (refine wpList_appB rfl (.tmp 12) (.tmp 16) rfl wr.heap.size (.slice none 0 0) 0 [] (OwnB.nil _ _) rfl (some ⟨wr.heap.size, 0, none⟩) 1 1 [x] rfl rfl (reads_byte wr _ x HXV.out _ _) (by omega) (by rw [World.size_alloc]; omega) wr ((Below.refl _ _).alloc (Nat.le_refl _) _) 1 rfl ?_; intro A2 c2 w2 o2 _ b2)
          | (refine wpList_appB rfl (.tmp 18) (.tmp 19) rfl wr.heap.size (.slice A2 1 c2) 1 _ o2 rfl Ad k cd dg rfl hdl.out (y1.below b2).reads (by omega) b2.size wr b2 (k + 1) (by omega) ?_; intro A3 c3 w3 o3 _ b3; clear o2 b2 y1))
        have b4 : Below w.heap.size w w3 := bel.trans (b3.mono bel.size)
        have o4 := hid (OwnB.mono o3 bel.size)
        have HS : Hid (be Z = be (m / 256) ++ ([] ++ [x] ++ dg)) := hid (by rw [hbe.out, HB.out, HX.out]; simp)
        clear o3 b3 bel
        go_roundw
        case rel => exact ⟨m / 256, k + 1, c3, A3, _, by go_num, rfl, by omega, hk7, HS, o4.out, b4⟩
        case measure => simp [intOf]; omega
      · obtain rfl : m = 0 := by omega
        have HZB : Hid (be Z = dg) := hid (by have := hbe.out; rwa [be_zero, List.nil_append] at this)
        have hkl := own.len
        have HKL := hid hkl
        have y1 := own.byt
        have y2 := hb.below bel
        obtain ⟨dx, hdx⟩ : ∃ x : UInt8, x = UInt8.ofNat k := ⟨_, rfl⟩
        have hdz : (k : Int) = (dx.toNat : Int) := by rw [hdx, UInt8.toNat_ofNat', Nat.mod_eq_of_lt (by omega)]
        have HDX := hid hdx
        have HDZ := hid hdz
        have d1 : IntKind.u8.wrap (k : Int) = (k : Int) := by rw [IntKind.wrap_u8']; omega
        clear own hdx hdz hkl hbe
        go_wp2_with (at_builtin; first
          | (refine wpList_appB rfl (.tmp 24) (.tmp 25) rfl wr.heap.size (.slice none 0 0) 0 [] (OwnB.nil _ _) rfl A n c l rfl HN.out (y2.more bel.size).reads (by omega) (Nat.le_refl _) wr (Below.refl _ _) n (by omega) ?_; intro A2 c2 w2 o2 _ b2)
          | (refine wpList_appB rfl (.tmp 27) (.tmp 31) rfl wr.heap.size (.slice A2 n c2) n _ (OwnB.alloc o2 _) rfl (some ⟨w2.heap.size, 0, none⟩) 1 1 [dx] rfl rfl (reads_byte w2 _ dx (by rw [← HDZ.out]) _ _) (by omega) (le_alloc b2.size _) wr (b2.alloc b2.size _) (n + 1) (by omega) ?_; intro A3 c3 w3 o3 _ b3; clear o2 b2)
          | (refine wpList_appB rfl (.tmp 33) (.tmp 34) rfl wr.heap.size (.slice A3 (n + 1) c3) (n + 1) _ o3 rfl Ad k cd dg rfl HKL.out (y1.below b3).reads (by omega) b3.size wr b3 (n + 1 + k) (by omega) ?_; intro A4 c4 w4 o4 _ b4; clear o3 b3))
        have h1 := OwnB.cap o4
        have h2 := OwnB.cap_max o4
        have O4 := hid (OwnB.mono o4 bel.size)
        have B4 : Below w.heap.size w w4 := bel.trans (b4.mono bel.size)
        have HE : Hid (enc Z = [dx] ++ dg) := hid (by rw [enc, HZB.out, HKL.out, HDX.out]; rfl)
        clear o4 b4 bel
        go_ret
        refine ⟨A4, c4, _, rfl, ?_, h1, h2, ?_, B4⟩
        · rw [HE.out, HN.out, List.length_append, HKL.out]; simp; omega
        · rw [HE.out, ← List.append_assoc]; simpa using O4.out

theorem refText_any (A : Option Addr) (l : List UInt8) (s : ByteArray) (n c : Nat) (hn : l.length = n) (hL : n ≤ 1099511627776)
    (hs : s.size ≤ 1099511627776) (w : World) (hb : Byt w w.heap.size A l) :
    Calls Tryd.prog 90 #[.slice A n c, .string s] w fun e w' => Puts w w' e l (encText s) := by
  have HC := hid (refNumber_any A l (s.size : Int) n c hn hL (by omega) (by omega) w hb)
  have HE : Hid ((enc s.size).length ≤ 9) := hid (enc_len_le (by omega))
  have HN := hid hn
  clear hn hb
  go_enter Tryd.func90, Tryd.ntmps90
  go_wp2_with fail
  refine HC.out.mono ?_
  rintro er w2 ⟨A2, c2, N, rfl, h1, h2, h3, h4, h5⟩
  have hNb : N ≤ 2199023255552 := by have := HN.out; have := HE.out; simp only [Int.toNat_natCast] at h1; omega
  have H1 := hid h1
  clear h1
  go_wp2_with (at_builtin; refine wpList_appS rfl (.tmp 10) (.tmp 11) rfl w.heap.size (.slice A2 N c2) N _ h4 rfl s rfl (by omega) h5.size w h5 (N + s.size) rfl ?_; intro A4 c4 w4 o4 _ b4; clear h4 h5)
  have k1 := OwnB.cap o4
  have k2 := OwnB.cap_max o4
  have O4 := hid o4
  clear o4
  go_ret
  refine ⟨A4, c4, N + s.size, rfl, ?_, k1, k2, ?_, b4⟩
  · have := H1.out; rw [HN.out, encText_length]; simp only [Int.toNat_natCast] at this; have := HN.out; omega
  · have := O4.out; rw [encText]; simpa only [Int.toNat_natCast, List.append_assoc] using this
end Go.Proofs.YtaadmgbmaekicaaDoor.Sh
/-
  A cursor in memory: three cells of a block; Fail, Err, End, Place, New.
-/
namespace Go.Proofs.YtaadmgbmaekicaaDoor.Sh
open Go Go.RowKit

/-- A cursor at block g: its bytes' slice, its place, its error. -/
def CuRow (T : TypeId) (w : World) (g : Nat) (A : Option Addr) (n c p : Nat) (e : Int) : Prop := w.heap[g]? = some (.cells #[.slice A n c, .int .i64 (p : Int), .int .i64 e] T (0, 0))
theorem grown_set (w : World) (g k : Nat) (u : Value) : w.grownBy (w.setCell ⟨g, k, none⟩ u) (some g) :=
  ⟨rfl, rfl, rfl, by simp, fun i _ hne => Below.heap_setCell w ⟨g, k, none⟩ u i (fun e => hne (by rw [e]))⟩
theorem grown_drewN (w : World) (n : Nat) (r : Option Nat) : w.grownBy (w.drewN n) r := ⟨rfl, rfl, rfl, Nat.le_refl _, fun _ _ _ => rfl⟩
section
variable {T : TypeId} {w w' : World} {g n c p : Nat} {A : Option Addr} {e : Int}
theorem CuRow.c0 (h : CuRow T w g A n c p e) : w.cell? ⟨g, 0, none⟩ = some (.slice A n c) := by rw [cell_of_row w g 0 _ T (0, 0) h]; rfl
theorem CuRow.c1 (h : CuRow T w g A n c p e) : w.cell? ⟨g, 1, none⟩ = some (.int .i64 (p : Int)) := by rw [cell_of_row w g 1 _ T (0, 0) h]; rfl
theorem CuRow.c2 (h : CuRow T w g A n c p e) : w.cell? ⟨g, 2, none⟩ = some (.int .i64 e) := by rw [cell_of_row w g 2 _ T (0, 0) h]; rfl
theorem CuRow.f (h : CuRow T w g A n c p e) (k : Nat) : w.frozen? ⟨g, k, none⟩ = false := frozen_of_row w g k _ T h
theorem CuRow.lt (h : CuRow T w g A n c p e) : g < w.heap.size := (Array.getElem?_eq_some_iff.1 h).1
theorem CuRow.kept {r : Option Nat} (h : CuRow T w g A n c p e) (hg : w.grownBy w' r) (hne : r ≠ some g) : CuRow T w' g A n c p e := (hg.block g h.lt (fun e => hne e.symm)).trans h
theorem CuRow.below {B : Nat} (h : CuRow T w g A n c p e) (hb : Below B w w') (hg : g < B) : CuRow T w' g A n c p e := (hb.block g hg).trans h
theorem CuRow.drewN (h : CuRow T w g A n c p e) (k : Nat) : CuRow T (w.drewN k) g A n c p e := h
theorem CuRow.set1 (h : CuRow T w g A n c p e) (q : Nat) {z : Int} (hz : z = (q : Int)) : CuRow T (w.setCell ⟨g, 1, none⟩ (.int .i64 z)) g A n c q e := by
  subst hz
  exact heap_setCell_same w g 1 _ _ (.int .i64 (q : Int)) h
theorem CuRow.set2 (h : CuRow T w g A n c p e) (z : Int) : CuRow T (w.setCell ⟨g, 2, none⟩ (.int .i64 z)) g A n c p z :=
  heap_setCell_same w g 2 _ _ (.int .i64 z) h
end
theorem Byt.grown {w w' : World} {B : Nat} {A : Option Addr} {l : List UInt8} {r : Option Nat} (h : Byt w B A l) (hB : B ≤ w.heap.size) (hg : w.grownBy w' r) (hr : ∀ g, r = some g → B ≤ g) : Byt w' B A l :=
  h.keep fun q hq => hg.cell_far q (by omega) (fun e => by have := hr q.block e.symm; omega)

def endOf (n p : Nat) (e : Int) : Int := if e = 0 ∧ p < n then 2 else e
theorem own_far {w : World} {B n c : Nat} {A : Option Addr} {l : List UInt8} (h : OwnB w B (.slice A n c) n l) : ∀ ad, A = some ad → B ≤ ad.block := by
  rintro ad rfl
  rcases h.2 with ⟨hv, _⟩ | ⟨g, cap, cur, hv, hB, _⟩
  · simp at hv
  · injection hv with h1 _ _
    injection h1 with h1
    subst h1
    exact hB

end Go.Proofs.YtaadmgbmaekicaaDoor.Sh
/-
  decoded: the number that bytes begin with.
-/
namespace Go.Proofs.YtaadmgbmaekicaaDoor.Sh
open Go Go.RowKit

theorem i64_or_nat (a b : Nat) (ha : a < 9223372036854775808) (hb : b < 9223372036854775808) : bits .or .i64 (a : Int) (b : Int) = ((a ||| b : Nat) : Int) := by
  have ho : ∀ a : Nat, a < 9223372036854775808 → (BitVec.ofInt 64 (a : Int)).toNat = a := fun a ha => by
    rw [BitVec.ofInt_natCast, BitVec.toNat_ofNat]; exact Nat.mod_eq_of_lt (by omega)
  show IntKind.i64.wrap ((BitVec.ofInt 64 (a : Int) ||| BitVec.ofInt 64 (b : Int)).toNat : Int) = _
  rw [BitVec.toNat_or, ho a ha, ho b hb, IntKind.wrap_i64]
  have : a ||| b < 2 ^ 63 := Nat.or_lt_two_pow (by omega) (by omega)
  omega
theorem or_digit (v d : Nat) (hd : d < 256) (h : 256 * v + d < 9223372036854775808) : bits .or .i64 ((256 * v : Nat) : Int) (d : Int) = ((256 * v + d : Nat) : Int) := by
  rw [i64_or_nat _ _ (by omega) (by omega), nat_join 8 (256 * v) d (by omega) (by omega)]

theorem look_nil {l : List UInt8} (h : l.length = 0) : look l = (0, 0, 3) := by
  rw [List.eq_nil_of_length_eq_zero h]; rfl
theorem look_cons {l : List UInt8} {x : UInt8} (h : l[0]? = some x) : ∃ t, l = x :: t ∧ t.length + 1 = l.length := by
  cases l with
  | nil => simp at h
  | cons y t => simp at h; subst h; exact ⟨t, rfl, by simp⟩
theorem look_big {l : List UInt8} {x : UInt8} (h : l[0]? = some x) (hx : 8 < x.toNat) : look l = (0, 0, 2) := by
  obtain ⟨t, rfl, _⟩ := look_cons h
  simp only [look]; rw [if_pos hx]
theorem look_few {l : List UInt8} {x : UInt8} (h : l[0]? = some x) (hx : x.toNat ≤ 8) (hl : l.length < x.toNat + 1) : look l = (0, 0, 3) := by
  obtain ⟨t, rfl, h2⟩ := look_cons h
  simp only [look]; rw [if_neg (by omega), if_pos (by omega)]
/-- The digits that a first byte of k names. -/
def digs (l : List UInt8) (k : Nat) : List UInt8 := (l.take (1 + k)).drop 1
theorem digs_get {l : List UInt8} {k j : Nat} (h : j < k) : (digs l k)[j]? = l[j + 1]? := by
  unfold digs
  rw [List.getElem?_drop, List.getElem?_take, if_pos (by omega), Nat.add_comm]
theorem digs_length {l : List UInt8} {k : Nat} (h : k + 1 ≤ l.length) : (digs l k).length = k := by
  unfold digs; rw [List.length_drop, List.length_take]; omega
theorem look_digs {l : List UInt8} {x : UInt8} (h : l[0]? = some x) (hx : x.toNat ≤ 8) (hl : x.toNat + 1 ≤ l.length) :
    look l = if (digs l x.toNat).head? = some 0 then (0, 0, 2) else if 9223372036854775808 ≤ val (digs l x.toNat) then (0, 0, 2) else (val (digs l x.toNat), x.toNat + 1, 0) := by
  obtain ⟨t, rfl, h2⟩ := look_cons h
  have : digs (x :: t) x.toNat = t.take x.toNat := by unfold digs; rw [Nat.add_comm, List.take_succ_cons]; rfl
  simp only [look, this]
  rw [if_neg (by omega), if_neg (by omega)]
theorem digs_head {l : List UInt8} {k : Nat} (hk : 0 < k) : (digs l k).head? = l[1]? := by
  rw [List.head?_eq_getElem?, digs_get hk]
theorem digs_fits {l : List UInt8} {k : Nat} {y : UInt8} (hk : k ≤ 8) (hl : k + 1 ≤ l.length) (h : 0 < k → l[1]? = some y) (h8 : ¬ (k = 8 ∧ 127 < y.toNat)) : val (digs l k) < 9223372036854775808 := by
  have hL := digs_length hl
  by_cases h7 : k ≤ 7
  · exact val_seven (by omega)
  · have hk8 : k = 8 := by omega
    subst hk8
    have hh := digs_head (l := l) (k := 8) (by omega)
    rw [h (by omega)] at hh
    cases hd : digs l 8 with
    | nil => rw [hd] at hL; simp at hL
    | cons z r =>
      rw [hd] at hh hL
      simp at hh hL
      subst hh
      exact (val_eight hL).2 (by omega)
theorem digs_great {l : List UInt8} {y : UInt8} (hl : 9 ≤ l.length) (h : l[1]? = some y) (h8 : 127 < y.toNat) : 9223372036854775808 ≤ val (digs l 8) := by
  have hL := digs_length (k := 8) (l := l) hl
  have hh := digs_head (l := l) (k := 8) (by omega)
  rw [h] at hh
  cases hd : digs l 8 with
  | nil => rw [hd] at hL; simp at hL
  | cons z r =>
    rw [hd] at hh hL
    simp at hh hL
    subst hh
    have := (val_eight (x := z) hL)
    omega

def tup3 (x : Nat × Nat × Int) : Ending := .returned (.tuple #[.int .i64 (x.1 : Int), .int .i64 (x.2.1 : Int), .int .i64 x.2.2])

end Go.Proofs.YtaadmgbmaekicaaDoor.Sh
/-
  A cursor's Number.
-/
namespace Go.Proofs.YtaadmgbmaekicaaDoor.Sh
open Go Go.RowKit

/-- What Number answers, the place and the error behind it. -/
def numStep (l : List UInt8) (p : Nat) (e least most : Int) : Int × Nat × Int :=
  if e ≠ 0 then (0, p, e)
  else if (look (l.drop p)).2.2 ≠ 0 then (0, p, (look (l.drop p)).2.2)
  else if ((look (l.drop p)).1 : Int) < least ∨ most < ((look (l.drop p)).1 : Int) then (0, p, 2)
  else (((look (l.drop p)).1 : Int), p + (look (l.drop p)).2.1, 0)
/-- A call on a cursor: the answer, the cursor behind it, nothing else turned. -/
def Step (T : TypeId) (w w' : World) (g : Nat) (A : Option Addr) (n c : Nat) (er : Ending) (x : Int × Nat × Int) : Prop :=
  er = .returned (.int .i64 x.1) ∧ CuRow T w' g A n c x.2.1 x.2.2 ∧ w.grownBy w' (some g)
theorem look_zero {l : List UInt8} {N U : Nat} (h : look l = (N, U, 0)) : N < 9223372036854775808 ∧ U ≤ l.length ∧ 0 < U := by
  obtain ⟨h1, h2, _, h3⟩ := look_ok h
  exact ⟨h1, h2, by rw [h3, enc_length]; omega⟩
theorem look_nz {l : List UInt8} {N U : Nat} {E : Int} (h : look l = (N, U, E)) (hE : E ≠ 0) : E = 2 ∨ E = 3 := by
  rcases look_cases l with ⟨a, b, h1⟩ | h1 | h1 <;> rw [h1] at h <;> simp only [Prod.mk.injEq] at h
  · exact absurd h.2.2.symm hE
  · exact .inl h.2.2.symm
  · exact .inr h.2.2.symm

end Go.Proofs.YtaadmgbmaekicaaDoor.Sh
/-
  A cursor's Text.
-/
namespace Go.Proofs.YtaadmgbmaekicaaDoor.Sh
open Go Go.RowKit

theorem conv_byt {w : World} {B : Nat} {A : Option Addr} {l : List UInt8} {n c : Nat} (h : Byt w B A l) (hl : l.length = n) : (convert 22 9 (.slice A n c)).run Tryd.prog w = .ok (.string ⟨l.toArray⟩) w := by
  subst hl
  rcases A with _ | ad
  · obtain rfl : l = [] := by
      rcases Nat.eq_zero_or_pos l.length with h0 | h0
      · exact List.eq_nil_of_length_eq_zero h0
      · obtain ⟨_, h1, _⟩ := h h0
        cases h1
    exact Lib.run_convert_nil_bytes w 22 9 5 c Tryd.underlying22 Tryd.underlying5 Tryd.underlying9
  · exact run_convert_bytes_back w 22 9 5 ad c l Tryd.underlying22 Tryd.underlying5 Tryd.underlying9 (fun j hj => h.cells rfl j _ (by simp [bv, hj]))

theorem numStep_nat (l : List UInt8) (p : Nat) (e least most : Int) (hp : p ≤ l.length) :
    ∃ (V p' : Nat) (e' : Int), numStep l p e least most = ((V : Int), p', e') ∧ V < 9223372036854775808 ∧ p' ≤ l.length ∧ (e' ≠ 0 → V = 0 ∧ p' = p) := by
  unfold numStep
  split
  · exact ⟨0, p, e, rfl, by omega, hp, fun _ => ⟨rfl, rfl⟩⟩
  · split
    · exact ⟨0, p, _, rfl, by omega, hp, fun _ => ⟨rfl, rfl⟩⟩
    · split
      · exact ⟨0, p, _, rfl, by omega, hp, fun _ => ⟨rfl, rfl⟩⟩
      · rename_i h _
        obtain ⟨h1, h2, _⟩ := look_zero (l := l.drop p) (N := (look (l.drop p)).1) (U := (look (l.drop p)).2.1) (by
          have : (look (l.drop p)).2.2 = 0 := by omega
          rw [← this])
        rw [List.length_drop] at h2
        exact ⟨_, _, _, rfl, h1, by omega, fun h => absurd rfl h⟩
/-- What text answers; the place may be behind what it has passed. -/
def textRaw (l : List UInt8) (p : Nat) (e most : Int) : List UInt8 × Nat × Int :=
  if (l.length : Int) - (numStep l p e 0 most).2.1 < (numStep l p e 0 most).1 then ([], (numStep l p e 0 most).2.1, 3)
  else ((l.drop (numStep l p e 0 most).2.1).take (numStep l p e 0 most).1.toNat, (numStep l p e 0 most).2.1 + (numStep l p e 0 most).1.toNat, (numStep l p e 0 most).2.2)
/-- What Text answers. -/
def textStep (l : List UInt8) (p : Nat) (e most : Int) : List UInt8 × Nat × Int :=
  if e ≠ 0 then ([], p, e)
  else if (look (l.drop p)).2.2 ≠ 0 then ([], p, (look (l.drop p)).2.2)
  else if most < ((look (l.drop p)).1 : Int) then ([], p, 2)
  else if l.length - (p + (look (l.drop p)).2.1) < (look (l.drop p)).1 then ([], p, 3)
  else ((l.drop (p + (look (l.drop p)).2.1)).take (look (l.drop p)).1, p + (look (l.drop p)).2.1 + (look (l.drop p)).1, 0)
theorem text_raw (l : List UInt8) (p : Nat) (e most : Int) (hp : p ≤ l.length) :
    textStep l p e most = ((textRaw l p e most).1, (if (textRaw l p e most).2.2 ≠ 0 then p else (textRaw l p e most).2.1), (textRaw l p e most).2.2) := by
  unfold textStep textRaw numStep
  by_cases h1 : e ≠ 0
  · simp only [if_pos h1]
    rw [if_neg (by omega), if_pos h1]
    simp
  · simp only [if_neg h1]
    by_cases h2 : (look (l.drop p)).2.2 ≠ 0
    · simp only [if_pos h2]
      rw [if_neg (by omega), if_pos h2]
      simp
    · simp only [if_neg h2]
      by_cases h3 : most < ((look (l.drop p)).1 : Int)
      · have h3' : ((look (l.drop p)).1 : Int) < 0 ∨ most < ((look (l.drop p)).1 : Int) := .inr h3
        simp only [if_pos h3, if_pos h3']
        rw [if_neg (by omega)]
        simp
      · have h3' : ¬ (((look (l.drop p)).1 : Int) < 0 ∨ most < ((look (l.drop p)).1 : Int)) := by omega
        simp only [if_neg h3, if_neg h3']
        have hu : (look (l.drop p)).2.1 ≤ l.length - p := by
          obtain ⟨_, h, _⟩ := look_zero (l := l.drop p) (N := (look (l.drop p)).1) (U := (look (l.drop p)).2.1) (by
            have : (look (l.drop p)).2.2 = 0 := by omega
            rw [← this])
          rwa [List.length_drop] at h
        by_cases h4 : l.length - (p + (look (l.drop p)).2.1) < (look (l.drop p)).1
        · rw [if_pos h4, if_pos (by omega)]
          simp
        · rw [if_neg h4, if_neg (by omega), if_neg (by simp)]
          simp

def StepS (T : TypeId) (w w' : World) (g : Nat) (A : Option Addr) (n c : Nat) (er : Ending) (x : List UInt8 × Nat × Int) : Prop :=
  er = .returned (.string ⟨x.1.toArray⟩) ∧ CuRow T w' g A n c x.2.1 x.2.2 ∧ w.grownBy w' (some g)

end Go.Proofs.YtaadmgbmaekicaaDoor.Sh
/-
  The document's own look.
-/
namespace Go.Proofs.YtaadmgbmaekicaaDoor.Sh
open Go Go.RowKit

theorem val_over {l : List UInt8} {k j : Nat} {z : UInt8} (hz : (digs l k)[j]? = some z) (hV : 36028797018963967 < val ((digs l k).take j)) : 9223372036854775808 ≤ val (digs l k) := by
  have h1 := val_take_succ hz
  have h2 := val_mono_take (digs l k) (j + 1)
  omega

end Go.Proofs.YtaadmgbmaekicaaDoor.Sh
/-
  The document's own cursor: Number and Text.
-/
namespace Go.Proofs.YtaadmgbmaekicaaDoor.Sh
open Go Go.RowKit

end Go.Proofs.YtaadmgbmaekicaaDoor.Sh
