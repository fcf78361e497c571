/-
  The document's own Number and Text.
-/
import Derived.Test.YtaadmgbmaekicaaGreatDoorJn3
set_option linter.unusedVariables false
set_option linter.unusedSimpArgs false
namespace Go.Proofs.YtaadmgbmaekicaaGreatDoor.Sh
open Go Go.RowKit

theorem rem_byte (m : Nat) : ∃ x : UInt8, x = UInt8.ofNat (m % 256) ∧ (m : Int) % 256 = (x.toNat : Int) := ⟨_, rfl, by rw [ofNat_mod]; omega⟩

set_option maxHeartbeats 2000000 in
theorem refNumber_any (A : Option Addr) (l : List UInt8) (z : Int) (n c : Nat) (hn : l.length = n) (hL : n ≤ 1099511627776)
    (hz : z < 9223372036854775808) (hz0 : -9223372036854775808 ≤ z) (w : World) (hb : Byt w w.heap.size A l) :
    Calls Tryz.prog 105 #[.slice A n c, .int .i64 z] w fun e w' => Puts w w' e l (enc z.toNat) := by
  obtain ⟨Z, hZ⟩ : ∃ Z, Z = z.toNat := ⟨_, rfl⟩
  rw [← hZ]
  have hZ2 : Z < 9223372036854775808 := by omega
  have HN := hid hn
  go_enter Tryz.func105, Tryz.ntmps105
  rcases Int.lt_or_le z 0 with h0 | h0
  · have hZ0 := hid (show Z = 0 by omega)
    clear hZ
    go_wp2
    go_loopw [1, 5] (fun x d wr => ∃ (m k cd : Nat) (Ad : Option Addr) (dg : List UInt8), x = .int .i64 m ∧ d = .slice Ad k cd ∧ m < 9223372036854775808 ∧ k ≤ 8 ∧ Hid (be Z = be m ++ dg) ∧ OwnB wr w.heap.size (.slice Ad k cd) k dg ∧ Below w.heap.size w wr) (fun x _ _ => (intOf x).toNat)
    case atStart => exact ⟨Z, 0, 0, none, [], by rw [hZ0.out]; rfl, rfl, hZ2, by omega, hid (by simp), OwnB.nil _ _, Below.refl _ _⟩
    case round =>
      obtain ⟨m, k, cd, Ad, dg, rfl, rfl, hm, hk8, hbe, own, bel⟩ := hrel
      by_cases hpos : 0 < m
      · have hz : (0 : Int) < (m : Int) := by omega
        obtain ⟨x, hx, hxv⟩ := rem_byte m
        have HXV := hid hxv
        have HB := hid (be_pos hpos)
        have HX := hid hx
        have hk7 : k + 1 ≤ 8 := by
          have h1 := hbe.out
          have h2 := be_len8 hZ2
          have h3 := own.len
          have h4 := be_len_pos hpos
          rw [h1, List.length_append] at h2
          omega
        have y1 := own.byt
        have hdl := hid own.len
        clear hx hxv own
        have et : (m : Int).tmod 256 = (m : Int) % 256 := Int.tmod_eq_emod_of_nonneg (by omega)
        have ed : (m : Int).tdiv 256 = (m : Int) / 256 := Int.tdiv_eq_ediv_of_nonneg (by omega)
        go_wp2_with (at_builtin; first
          | (refine wpList_appB rfl (.tmp 12) (.tmp 16) rfl wr.heap.size (.slice none 0 0) 0 [] (OwnB.nil _ _) rfl (some ⟨wr.heap.size, 0, none⟩) 1 1 [x] rfl rfl (reads_byte wr _ x HXV.out _ _) (by omega) (by rw [World.size_alloc]; omega) wr ((Below.refl _ _).alloc (Nat.le_refl _) _) 1 rfl ?_; intro A2 c2 w2 o2 _ b2)
          | (refine wpList_appB rfl (.tmp 18) (.tmp 19) rfl wr.heap.size (.slice A2 1 c2) 1 _ o2 rfl Ad k cd dg rfl hdl.out (y1.below b2).reads (by omega) b2.size wr b2 (k + 1) (by omega) ?_; intro A3 c3 w3 o3 _ b3; clear o2 b2 y1))
        have b4 : Below w.heap.size w w3 := bel.trans (b3.mono bel.size)
        have o4 := hid (OwnB.mono o3 bel.size)
        have HS : Hid (be Z = be (m / 256) ++ ([] ++ [x] ++ dg)) := hid (by rw [hbe.out, HB.out, HX.out]; simp)
        clear o3 b3 bel
        go_roundw
        case rel => exact ⟨m / 256, k + 1, c3, A3, _, by go_num, rfl, by omega, hk7, HS, o4.out, b4⟩
        case measure => simp [intOf]; omega
      · obtain rfl : m = 0 := by omega
        have HZB : Hid (be Z = dg) := hid (by have := hbe.out; rwa [be_zero, List.nil_append] at this)
        have hkl := own.len
        have HKL := hid hkl
        have y1 := own.byt
        have y2 := hb.below bel
        obtain ⟨dx, hdx⟩ : ∃ x : UInt8, x = UInt8.ofNat k := ⟨_, rfl⟩
        have hdz : (k : Int) = (dx.toNat : Int) := by rw [hdx, UInt8.toNat_ofNat', Nat.mod_eq_of_lt (by omega)]
        have HDX := hid hdx
        have HDZ := hid hdz
        have d1 : IntKind.u8.wrap (k : Int) = (k : Int) := by rw [IntKind.wrap_u8']; omega
        clear own hdx hdz hkl hbe
        go_wp2_with (at_builtin; first
          | (refine wpList_appB rfl (.tmp 24) (.tmp 25) rfl wr.heap.size (.slice none 0 0) 0 [] (OwnB.nil _ _) rfl A n c l rfl HN.out (y2.more bel.size).reads (by omega) (Nat.le_refl _) wr (Below.refl _ _) n (by omega) ?_; intro A2 c2 w2 o2 _ b2)
          | (refine wpList_appB rfl (.tmp 27) (.tmp 31) rfl wr.heap.size (.slice A2 n c2) n _ (OwnB.alloc o2 _) rfl (some ⟨w2.heap.size, 0, none⟩) 1 1 [dx] rfl rfl (reads_byte w2 _ dx (by rw [← HDZ.out]) _ _) (by omega) (le_alloc b2.size _) wr (b2.alloc b2.size _) (n + 1) (by omega) ?_; intro A3 c3 w3 o3 _ b3; clear o2 b2)
          | (refine wpList_appB rfl (.tmp 33) (.tmp 34) rfl wr.heap.size (.slice A3 (n + 1) c3) (n + 1) _ o3 rfl Ad k cd dg rfl HKL.out (y1.below b3).reads (by omega) b3.size wr b3 (n + 1 + k) (by omega) ?_; intro A4 c4 w4 o4 _ b4; clear o3 b3))
        have h1 := OwnB.cap o4
        have h2 := OwnB.cap_max o4
        have O4 := hid (OwnB.mono o4 bel.size)
        have B4 : Below w.heap.size w w4 := bel.trans (b4.mono bel.size)
        have HE : Hid (enc Z = [dx] ++ dg) := hid (by rw [enc, HZB.out, HKL.out, HDX.out]; rfl)
        clear o4 b4 bel
        go_ret
        refine ⟨A4, c4, _, rfl, ?_, h1, h2, ?_, B4⟩
        · rw [HE.out, HN.out, List.length_append, HKL.out]; simp; omega
        · rw [HE.out, ← List.append_assoc]; simpa using O4.out
  · have hZc : z = (Z : Int) := by omega
    clear hZ
    subst hZc
    have h00 : ¬ ((Z : Int) < 0) := by omega
    go_wp2
    go_loopw [1, 5] (fun x d wr => ∃ (m k cd : Nat) (Ad : Option Addr) (dg : List UInt8), x = .int .i64 m ∧ d = .slice Ad k cd ∧ m < 9223372036854775808 ∧ k ≤ 8 ∧ Hid (be Z = be m ++ dg) ∧ OwnB wr w.heap.size (.slice Ad k cd) k dg ∧ Below w.heap.size w wr) (fun x _ _ => (intOf x).toNat)
    case atStart => exact ⟨Z, 0, 0, none, [], rfl, rfl, hZ2, by omega, hid (by simp), OwnB.nil _ _, Below.refl _ _⟩
    case round =>
      obtain ⟨m, k, cd, Ad, dg, rfl, rfl, hm, hk8, hbe, own, bel⟩ := hrel
      by_cases hpos : 0 < m
      · have hz : (0 : Int) < (m : Int) := by omega
        obtain ⟨x, hx, hxv⟩ := rem_byte m
        have HXV := hid hxv
        have HB := hid (be_pos hpos)
        have HX := hid hx
        have hk7 : k + 1 ≤ 8 := by
          have h1 := hbe.out
          have h2 := be_len8 hZ2
          have h3 := own.len
          have h4 := be_len_pos hpos
          rw [h1, List.length_append] at h2
          omega
        have y1 := own.byt
        have hdl := hid own.len
        clear hx hxv own
        have et : (m : Int).tmod 256 = (m : Int) % 256 := Int.tmod_eq_emod_of_nonneg (by omega)
        have ed : (m : Int).tdiv 256 = (m : Int) / 256 := Int.tdiv_eq_ediv_of_nonneg (by omega)
        go_wp2_with (at_builtin; first
          | (refine wpList_appB rfl (.tmp 12) (.tmp 16) rfl wr.heap.size (.slice none 0 0) 0 [] (OwnB.nil _ _) rfl (some ⟨wr.heap.size, 0, none⟩) 1 1 [x] rfl rfl (reads_byte wr _ x HXV.out _ _) (by omega) (by rw [World.size_alloc]; omega) wr ((Below.refl _ _).alloc (Nat.le_refl _) _) 1 rfl ?_; intro A2 c2 w2 o2 _ b2)
          | (refine wpList_appB rfl (.tmp 18) (.tmp 19) rfl wr.heap.size (.slice A2 1 c2) 1 _ o2 rfl Ad k cd dg rfl hdl.out (y1.below b2).reads (by omega) b2.size wr b2 (k + 1) (by omega) ?_; intro A3 c3 w3 o3 _ b3; clear o2 b2 y1))
        have b4 : Below w.heap.size w w3 := bel.trans (b3.mono bel.size)
        have o4 := hid (OwnB.mono o3 bel.size)
        have HS : Hid (be Z = be (m / 256) ++ ([] ++ [x] ++ dg)) := hid (by rw [hbe.out, HB.out, HX.out]; simp)
        clear o3 b3 bel
        go_roundw
        case rel => exact ⟨m / 256, k + 1, c3, A3, _, by go_num, rfl, by omega, hk7, HS, o4.out, b4⟩
        case measure => simp [intOf]; omega
      · obtain rfl : m = 0 := by omega
        have HZB : Hid (be Z = dg) := hid (by have := hbe.out; rwa [be_zero, List.nil_append] at this)
        have hkl := own.len
        have HKL := hid hkl
        have y1 := own.byt
        have y2 := hb.below bel
        obtain ⟨dx, hdx⟩ : ∃ x : UInt8, x = UInt8.ofNat k := ⟨_, rfl⟩
        have hdz : (k : Int) = (dx.toNat : Int) := by rw [hdx, UInt8.toNat_ofNat', Nat.mod_eq_of_lt (by omega)]
        have HDX := hid hdx
        have HDZ := hid hdz
        have d1 : IntKind.u8.wrap (k : Int) = (k : Int) := by rw [IntKind.wrap_u8']; omega
        clear own hdx hdz hkl hbe
        go_wp2_with (at_builtin; first
          | (refine wpList_appB rfl (.tmp 24) (.tmp 25) rfl wr.heap.size (.slice none 0 0) 0 [] (OwnB.nil _ _) rfl A n c l rfl HN.out (y2.more bel.size).reads (by omega) (Nat.le_refl _) wr (Below.refl _ _) n (by omega) ?_; intro A2 c2 w2 o2 _ b2)
          | (refine wpList_appB rfl (.tmp 27) (.tmp 31) rfl wr.heap.size (.slice A2 n c2) n _ (OwnB.alloc o2 _) rfl (some ⟨w2.heap.size, 0, none⟩) 1 1 [dx] rfl rfl (reads_byte w2 _ dx (by rw [← HDZ.out]) _ _) (by omega) (le_alloc b2.size _) wr (b2.alloc b2.size _) (n + 1) (by omega) ?_; intro A3 c3 w3 o3 _ b3; clear o2 b2)
          | (refine wpList_appB rfl (.tmp 33) (.tmp 34) rfl wr.heap.size (.slice A3 (n + 1) c3) (n + 1) _ o3 rfl Ad k cd dg rfl HKL.out (y1.below b3).reads (by omega) b3.size wr b3 (n + 1 + k) (by omega) ?_; intro A4 c4 w4 o4 _ b4; clear o3 b3))
        have h1 := OwnB.cap o4
        have h2 := OwnB.cap_max o4
        have O4 := hid (OwnB.mono o4 bel.size)
        have B4 : Below w.heap.size w w4 := bel.trans (b4.mono bel.size)
        have HE : Hid (enc Z = [dx] ++ dg) := hid (by rw [enc, HZB.out, HKL.out, HDX.out]; rfl)
        clear o4 b4 bel
        go_ret
        refine ⟨A4, c4, _, rfl, ?_, h1, h2, ?_, B4⟩
        · rw [HE.out, HN.out, List.length_append, HKL.out]; simp; omega
        · rw [HE.out, ← List.append_assoc]; simpa using O4.out

theorem refText_any (A : Option Addr) (l : List UInt8) (s : ByteArray) (n c : Nat) (hn : l.length = n) (hL : n ≤ 1099511627776)
    (hs : s.size ≤ 1099511627776) (w : World) (hb : Byt w w.heap.size A l) :
    Calls Tryz.prog 106 #[.slice A n c, .string s] w fun e w' => Puts w w' e l (encText s) := by
  have HC := hid (refNumber_any A l (s.size : Int) n c hn hL (by omega) (by omega) w hb)
  have HE : Hid ((enc s.size).length ≤ 9) := hid (enc_len_le (by omega))
  have HN := hid hn
  clear hn hb
  go_enter Tryz.func106, Tryz.ntmps106
  go_wp2_with fail
  refine HC.out.mono ?_
  rintro er w2 ⟨A2, c2, N, rfl, h1, h2, h3, h4, h5⟩
  have hNb : N ≤ 2199023255552 := by have := HN.out; have := HE.out; simp only [Int.toNat_natCast] at h1; omega
  have H1 := hid h1
  clear h1
  go_wp2_with (at_builtin; refine wpList_appS rfl (.tmp 10) (.tmp 11) rfl w.heap.size (.slice A2 N c2) N _ h4 rfl s rfl (by omega) h5.size w h5 (N + s.size) rfl ?_; intro A4 c4 w4 o4 _ b4; clear h4 h5)
  have k1 := OwnB.cap o4
  have k2 := OwnB.cap_max o4
  have O4 := hid o4
  clear o4
  go_ret
  refine ⟨A4, c4, N + s.size, rfl, ?_, k1, k2, ?_, b4⟩
  · have := H1.out; rw [HN.out, encText_length]; simp only [Int.toNat_natCast] at this; have := HN.out; omega
  · have := O4.out; rw [encText]; simpa only [Int.toNat_natCast, List.append_assoc] using this
end Go.Proofs.YtaadmgbmaekicaaGreatDoor.Sh
/-
  A cursor in memory: three cells of a block; Fail, Err, End, Place, New.
-/
namespace Go.Proofs.YtaadmgbmaekicaaGreatDoor.Sh
open Go Go.RowKit

/-- A cursor at block g: its bytes' slice, its place, its error. -/
def CuRow (T : TypeId) (w : World) (g : Nat) (A : Option Addr) (n c p : Nat) (e : Int) : Prop := w.heap[g]? = some (.cells #[.slice A n c, .int .i64 (p : Int), .int .i64 e] T (0, 0))
theorem grown_set (w : World) (g k : Nat) (u : Value) : w.grownBy (w.setCell ⟨g, k, none⟩ u) (some g) :=
  ⟨rfl, rfl, rfl, by simp, fun i _ hne => Below.heap_setCell w ⟨g, k, none⟩ u i (fun e => hne (by rw [e]))⟩
theorem grown_drewN (w : World) (n : Nat) (r : Option Nat) : w.grownBy (w.drewN n) r := ⟨rfl, rfl, rfl, Nat.le_refl _, fun _ _ _ => rfl⟩
section
variable {T : TypeId} {w w' : World} {g n c p : Nat} {A : Option Addr} {e : Int}
theorem CuRow.c0 (h : CuRow T w g A n c p e) : w.cell? ⟨g, 0, none⟩ = some (.slice A n c) := by rw [cell_of_row w g 0 _ T (0, 0) h]; rfl
theorem CuRow.c1 (h : CuRow T w g A n c p e) : w.cell? ⟨g, 1, none⟩ = some (.int .i64 (p : Int)) := by rw [cell_of_row w g 1 _ T (0, 0) h]; rfl
theorem CuRow.c2 (h : CuRow T w g A n c p e) : w.cell? ⟨g, 2, none⟩ = some (.int .i64 e) := by rw [cell_of_row w g 2 _ T (0, 0) h]; rfl
theorem CuRow.f (h : CuRow T w g A n c p e) (k : Nat) : w.frozen? ⟨g, k, none⟩ = false := frozen_of_row w g k _ T h
theorem CuRow.lt (h : CuRow T w g A n c p e) : g < w.heap.size := (Array.getElem?_eq_some_iff.1 h).1
theorem CuRow.kept {r : Option Nat} (h : CuRow T w g A n c p e) (hg : w.grownBy w' r) (hne : r ≠ some g) : CuRow T w' g A n c p e := (hg.block g h.lt (fun e => hne e.symm)).trans h
theorem CuRow.below {B : Nat} (h : CuRow T w g A n c p e) (hb : Below B w w') (hg : g < B) : CuRow T w' g A n c p e := (hb.block g hg).trans h
theorem CuRow.drewN (h : CuRow T w g A n c p e) (k : Nat) : CuRow T (w.drewN k) g A n c p e := h
theorem CuRow.set1 (h : CuRow T w g A n c p e) (q : Nat) {z : Int} (hz : z = (q : Int)) : CuRow T (w.setCell ⟨g, 1, none⟩ (.int .i64 z)) g A n c q e := by
  subst hz
  exact heap_setCell_same w g 1 _ _ (.int .i64 (q : Int)) h
theorem CuRow.set2 (h : CuRow T w g A n c p e) (z : Int) : CuRow T (w.setCell ⟨g, 2, none⟩ (.int .i64 z)) g A n c p z :=
  heap_setCell_same w g 2 _ _ (.int .i64 z) h
end
theorem Byt.grown {w w' : World} {B : Nat} {A : Option Addr} {l : List UInt8} {r : Option Nat} (h : Byt w B A l) (hB : B ≤ w.heap.size) (hg : w.grownBy w' r) (hr : ∀ g, r = some g → B ≤ g) : Byt w' B A l :=
  h.keep fun q hq => hg.cell_far q (by omega) (fun e => by have := hr q.block e.symm; omega)

theorem fail_any (g : Nat) (A : Option Addr) (n c p : Nat) (e z : Int) (w : World) (h : CuRow 76 w g A n c p e) :
    Calls Tryz.prog 43 #[.pointer (some ⟨g, 0, none⟩), .int .i64 z] w fun er w' => er = .returned (.tuple #[]) ∧ CuRow 76 w' g A n c p (if e = 0 then z else e) ∧ w.grownBy w' (some g) := by
  have h2 := h.c2
  have f2 := h.f 2
  have H := hid h
  clear h
  go_enter Tryz.func43, Tryz.ntmps43
  by_cases he : e = 0
  · subst he
    go_wp2
    go_end0
    exact ⟨rfl, by first | exact H.out.set2 z | (rw [if_pos rfl]; exact H.out.set2 z), grown_set _ _ _ _⟩
  · go_wp2
    go_end0
    exact ⟨rfl, by first | exact H.out | (rw [if_neg he]; exact H.out), World.grownBy.refl _ _⟩
theorem refFail_any (g : Nat) (A : Option Addr) (n c p : Nat) (e z : Int) (w : World) (h : CuRow 41 w g A n c p e) :
    Calls Tryz.prog 47 #[.pointer (some ⟨g, 0, none⟩), .int .i64 z] w fun er w' => er = .returned (.tuple #[]) ∧ CuRow 41 w' g A n c p (if e = 0 then z else e) ∧ w.grownBy w' (some g) := by
  have h2 := h.c2
  have f2 := h.f 2
  have H := hid h
  clear h
  go_enter Tryz.func47, Tryz.ntmps47
  by_cases he : e = 0
  · subst he
    go_wp2
    go_end0
    exact ⟨rfl, by first | exact H.out.set2 z | (rw [if_pos rfl]; exact H.out.set2 z), grown_set _ _ _ _⟩
  · go_wp2
    go_end0
    exact ⟨rfl, by first | exact H.out | (rw [if_neg he]; exact H.out), World.grownBy.refl _ _⟩
theorem err_any (g : Nat) (A : Option Addr) (n c p : Nat) (e : Int) (w : World) (h : CuRow 76 w g A n c p e) :
    Calls Tryz.prog 17 #[.pointer (some ⟨g, 0, none⟩)] w fun er w' => er = .returned (.int .i64 e) ∧ w = w' := by
  have h2 := h.c2
  clear h
  go_enter Tryz.func17, Tryz.ntmps17
  go_wp2
  go_ret
  exact ⟨rfl, rfl⟩
theorem place_any (g : Nat) (A : Option Addr) (n c p : Nat) (e : Int) (w : World) (h : CuRow 76 w g A n c p e) :
    Calls Tryz.prog 16 #[.pointer (some ⟨g, 0, none⟩)] w fun er w' => er = .returned (.int .i64 (p : Int)) ∧ w = w' := by
  have h2 := h.c1
  clear h
  go_enter Tryz.func16, Tryz.ntmps16
  go_wp2
  go_ret
  exact ⟨rfl, rfl⟩
def endOf (n p : Nat) (e : Int) : Int := if e = 0 ∧ p < n then 2 else e
theorem own_far {w : World} {B n c : Nat} {A : Option Addr} {l : List UInt8} (h : OwnB w B (.slice A n c) n l) : ∀ ad, A = some ad → B ≤ ad.block := by
  rintro ad rfl
  rcases h.2 with ⟨hv, _⟩ | ⟨g, cap, cur, hv, hB, _⟩
  · simp at hv
  · injection hv with h1 _ _
    injection h1 with h1
    subst h1
    exact hB

theorem new_any (A : Option Addr) (l : List UInt8) (n c : Nat) (hn : l.length = n) (hL : n ≤ 1099511627776) (w : World) (hb : Byt w w.heap.size A l) :
    Calls Tryz.prog 13 #[.slice A n c] w fun er w' => ∃ g A' c', er = .returned (.pointer (some ⟨g, 0, none⟩)) ∧ CuRow 76 w' g A' n c' 0 0 ∧ n ≤ c' ∧ c' ≤ 9223372036854775807 ∧ Byt w' g A' l ∧
      w.heap.size ≤ g ∧ (∀ ad, A' = some ad → w.heap.size ≤ ad.block) ∧ Below w.heap.size w w' := by
  have HN := hid hn
  have y1 := hb.reads
  clear hn
  go_enter Tryz.func13, Tryz.ntmps13
  go_wp2_with (at_builtin; refine wpList_appB rfl _ (.tmp 3) rfl w.heap.size (.slice none 0 0) 0 [] (OwnB.nil _ _) rfl A n c l rfl HN.out y1 (by omega) (Nat.le_refl _) w (Below.refl _ _) n (by omega) ?_; intro A2 c2 w2 o2 _ b2)
  have k1 := OwnB.cap o2
  have k2 := OwnB.cap_max o2
  have k3 := own_far o2
  have k4 := o2.byt
  go_ret
  refine ⟨w2.heap.size, A2, c2, rfl, heap_alloc_new w2 _, k1, k2, ?_, b2.size, k3, b2.alloc b2.size _⟩
  exact k4.keep fun q hq => ((Below.refl w2.heap.size w2).alloc (Nat.le_refl _) _).cell hq
end Go.Proofs.YtaadmgbmaekicaaGreatDoor.Sh
