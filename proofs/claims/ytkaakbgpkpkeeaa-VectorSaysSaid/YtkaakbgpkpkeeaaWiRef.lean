/-
  The document's own Number and Text.
-/
import Derived.Test.YtkaakbgpkpkeeaaWiPut
namespace Go.Proofs.Ytkaakbgpkpkeeaa.Sh
open Go Go.RowKit

theorem rem_byte (m : Nat) : ∃ x : UInt8, x = UInt8.ofNat (m % 256) ∧ (m : Int) % 256 = (x.toNat : Int) := ⟨_, rfl, by rw [ofNat_mod]; omega⟩

set_option maxHeartbeats 2000000 in
theorem refNumber_any (A : Option Addr) (l : List UInt8) (z : Int) (n c : Nat) (hn : l.length = n) (hL : n ≤ 1099511627776)
    (hz : z < 9223372036854775808) (hz0 : -9223372036854775808 ≤ z) (w : World) (hb : Byt w w.heap.size A l) :
    Calls Try.prog 42 #[.slice A n c, .int .i64 z] w fun e w' => Puts w w' e l (enc z.toNat) := by
  obtain ⟨Z, hZ⟩ : ∃ Z, Z = z.toNat := ⟨_, rfl⟩
  rw [← hZ]
  have hZ2 : Z < 9223372036854775808 := by omega
  have HN := hid hn
  go_enter Try.func42, Try.ntmps42
  rcases Int.lt_or_le z 0 with h0 | h0
  · have hZ0 := hid (show Z = 0 by omega)
    clear hZ
    go_wp2
    go_loopw [1, 5] (fun x d wr => ∃ (m k cd : Nat) (Ad : Option Addr) (dg : List UInt8), x = .int .i64 m ∧ d = .slice Ad k cd ∧ m < 9223372036854775808 ∧ k ≤ 8 ∧ Hid (be Z = be m ++ dg) ∧ OwnB wr w.heap.size (.slice Ad k cd) k dg ∧ Below w.heap.size w wr) (fun x _ _ => (intOf x).toNat)
    case atStart => exact ⟨Z, 0, 0, none, [], by rw [hZ0.out]; rfl, rfl, hZ2, by omega, hid (by simp), OwnB.nil _ _, Below.refl _ _⟩
    case round =>
      obtain ⟨m, k, cd, Ad, dg, rfl, rfl, hm, hk8, hbe, own, bel⟩ := hrel
      by_cases hpos : 0 < m
      · have hz : (0 : Int) < (m : Int) := by omega
        obtain ⟨x, hx, hxv⟩ := rem_byte m
        have HXV := hid hxv
        have HB := hid (be_pos hpos)
        have HX := hid hx
        have hk7 : k + 1 ≤ 8 := by
          have h1 := hbe.out
          have h2 := be_len8 hZ2
          have h3 := own.len
          have h4 := be_len_pos hpos
          rw [h1, List.length_append] at h2
          omega
        have y1 := own.byt
        have hdl := hid own.len
        clear hx hxv own
        have et : (m : Int).tmod 256 = (m : Int) % 256 := Int.tmod_eq_emod_of_nonneg (by omega)
        have ed : (m : Int).tdiv 256 = (m : Int) / 256 := Int.tdiv_eq_ediv_of_nonneg (by omega)
        go_wp2_with (at_builtin; first
          | (refine wpList_appB rfl (.tmp 12) (.tmp 16) rfl wr.heap.size (.slice none 0 0) 0 [] (OwnB.nil _ _) rfl (some ⟨wr.heap.size, 0, none⟩) 1 1 [x] rfl rfl (reads_byte wr _ x HXV.out _ _) (by omega) (by rw [World.size_alloc]; omega) wr ((Below.refl _ _).alloc (Nat.le_refl _) _) 1 rfl ?_; intro A2 c2 w2 o2 _ b2)
          | (refine wpList_appB rfl (.tmp 18) (.tmp 19) rfl wr.heap.size (.slice A2 1 c2) 1 _ o2 rfl Ad k cd dg rfl hdl.out (y1.below b2).reads (by omega) b2.size wr b2 (k + 1) (by omega) ?_; intro A3 c3 w3 o3 _ b3; clear o2 b2 y1))
        have b4 : Below w.heap.size w w3 := bel.trans (b3.mono bel.size)
        have o4 := hid (OwnB.mono o3 bel.size)
        have HS : Hid (be Z = be (m / 256) ++ ([] ++ [x] ++ dg)) := hid (by rw [hbe.out, HB.out, HX.out]; simp)
        clear o3 b3 bel
        go_roundw
        case rel => exact ⟨m / 256, k + 1, c3, A3, _, by go_num, rfl, by omega, hk7, HS, o4.out, b4⟩
        case measure => simp [intOf]; omega
      · obtain rfl : m = 0 := by omega
        have HZB : Hid (be Z = dg) := hid (by have := hbe.out; rwa [be_zero, List.nil_append] at this)
        have hkl := own.len
        have HKL := hid hkl
        have y1 := own.byt
        have y2 := hb.below bel
        obtain ⟨dx, hdx⟩ : ∃ x : UInt8, x = UInt8.ofNat k := ⟨_, rfl⟩
        have hdz : (k : Int) = (dx.toNat : Int) := by rw [hdx, UInt8.toNat_ofNat', Nat.mod_eq_of_lt (by omega)]
        have HDX := hid hdx
        have HDZ := hid hdz
        have d1 : IntKind.u8.wrap (k : Int) = (k : Int) := by rw [IntKind.wrap_u8']; omega
        clear own hdx hdz hkl hbe
        go_wp2_with (at_builtin; first
          | (refine wpList_appB rfl (.tmp 24) (.tmp 25) rfl wr.heap.size (.slice none 0 0) 0 [] (OwnB.nil _ _) rfl A n c l rfl HN.out (y2.more bel.size).reads (by omega) (Nat.le_refl _) wr (Below.refl _ _) n (by omega) ?_; intro A2 c2 w2 o2 _ b2)
          | (refine wpList_appB rfl (.tmp 27) (.tmp 31) rfl wr.heap.size (.slice A2 n c2) n _ (OwnB.alloc o2 _) rfl (some ⟨w2.heap.size, 0, none⟩) 1 1 [dx] rfl rfl (reads_byte w2 _ dx (by rw [← HDZ.out]) _ _) (by omega) (le_alloc b2.size _) wr (b2.alloc b2.size _) (n + 1) (by omega) ?_; intro A3 c3 w3 o3 _ b3; clear o2 b2)
          | (refine wpList_appB rfl (.tmp 33) (.tmp 34) rfl wr.heap.size (.slice A3 (n + 1) c3) (n + 1) _ o3 rfl Ad k cd dg rfl HKL.out (y1.below b3).reads (by omega) b3.size wr b3 (n + 1 + k) (by omega) ?_; intro A4 c4 w4 o4 _ b4; clear o3 b3))
        have h1 := OwnB.cap o4
        have h2 := OwnB.cap_max o4
        have O4 := hid (OwnB.mono o4 bel.size)
        have B4 : Below w.heap.size w w4 := bel.trans (b4.mono bel.size)
        have HE : Hid (enc Z = [dx] ++ dg) := hid (by rw [enc, HZB.out, HKL.out, HDX.out]; rfl)
        clear o4 b4 bel
        go_ret
        refine ⟨A4, c4, _, rfl, ?_, h1, h2, ?_, B4⟩
        · rw [HE.out, HN.out, List.length_append, HKL.out]; simp; omega
        · rw [HE.out, ← List.append_assoc]; simpa using O4.out
  · have hZc : z = (Z : Int) := by omega
    clear hZ
    subst hZc
    have h00 : ¬ ((Z : Int) < 0) := by omega
    go_wp2
    go_loopw [1, 5] (fun x d wr => ∃ (m k cd : Nat) (Ad : Option Addr) (dg : List UInt8), x = .int .i64 m ∧ d = .slice Ad k cd ∧ m < 9223372036854775808 ∧ k ≤ 8 ∧ Hid (be Z = be m ++ dg) ∧ OwnB wr w.heap.size (.slice Ad k cd) k dg ∧ Below w.heap.size w wr) (fun x _ _ => (intOf x).toNat)
    case atStart => exact ⟨Z, 0, 0, none, [], rfl, rfl, hZ2, by omega, hid (by simp), OwnB.nil _ _, Below.refl _ _⟩
    case round =>
      obtain ⟨m, k, cd, Ad, dg, rfl, rfl, hm, hk8, hbe, own, bel⟩ := hrel
      by_cases hpos : 0 < m
      · have hz : (0 : Int) < (m : Int) := by omega
        obtain ⟨x, hx, hxv⟩ := rem_byte m
        have HXV := hid hxv
        have HB := hid (be_pos hpos)
        have HX := hid hx
        have hk7 : k + 1 ≤ 8 := by
          have h1 := hbe.out
          have h2 := be_len8 hZ2
          have h3 := own.len
          have h4 := be_len_pos hpos
          rw [h1, List.length_append] at h2
          omega
        have y1 := own.byt
        have hdl := hid own.len
        clear hx hxv own
        have et : (m : Int).tmod 256 = (m : Int) % 256 := Int.tmod_eq_emod_of_nonneg (by omega)
        have ed : (m : Int).tdiv 256 = (m : Int) / 256 := Int.tdiv_eq_ediv_of_nonneg (by omega)
        go_wp2_with (at_builtin; first
          | (refine wpList_appB rfl (.tmp 12) (.tmp 16) rfl wr.heap.size (.slice none 0 0) 0 [] (OwnB.nil _ _) rfl (some ⟨wr.heap.size, 0, none⟩) 1 1 [x] rfl rfl (reads_byte wr _ x HXV.out _ _) (by omega) (by rw [World.size_alloc]; omega) wr ((Below.refl _ _).alloc (Nat.le_refl _) _) 1 rfl ?_; intro A2 c2 w2 o2 _ b2)
          | (refine wpList_appB rfl (.tmp 18) (.tmp 19) rfl wr.heap.size (.slice A2 1 c2) 1 _ o2 rfl Ad k cd dg rfl hdl.out (y1.below b2).reads (by omega) b2.size wr b2 (k + 1) (by omega) ?_; intro A3 c3 w3 o3 _ b3; clear o2 b2 y1))
        have b4 : Below w.heap.size w w3 := bel.trans (b3.mono bel.size)
        have o4 := hid (OwnB.mono o3 bel.size)
        have HS : Hid (be Z = be (m / 256) ++ ([] ++ [x] ++ dg)) := hid (by rw [hbe.out, HB.out, HX.out]; simp)
        clear o3 b3 bel
        go_roundw
        case rel => exact ⟨m / 256, k + 1, c3, A3, _, by go_num, rfl, by omega, hk7, HS, o4.out, b4⟩
        case measure => simp [intOf]; omega
      · obtain rfl : m = 0 := by omega
        have HZB : Hid (be Z = dg) := hid (by have := hbe.out; rwa [be_zero, List.nil_append] at this)
        have hkl := own.len
        have HKL := hid hkl
        have y1 := own.byt
        have y2 := hb.below bel
        obtain ⟨dx, hdx⟩ : ∃ x : UInt8, x = UInt8.ofNat k := ⟨_, rfl⟩
        have hdz : (k : Int) = (dx.toNat : Int) := by rw [hdx, UInt8.toNat_ofNat', Nat.mod_eq_of_lt (by omega)]
        have HDX := hid hdx
        have HDZ := hid hdz
        have d1 : IntKind.u8.wrap (k : Int) = (k : Int) := by rw [IntKind.wrap_u8']; omega
        clear own hdx hdz hkl hbe
        go_wp2_with (at_builtin; first
          | (refine wpList_appB rfl (.tmp 24) (.tmp 25) rfl wr.heap.size (.slice none 0 0) 0 [] (OwnB.nil _ _) rfl A n c l rfl HN.out (y2.more bel.size).reads (by omega) (Nat.le_refl _) wr (Below.refl _ _) n (by omega) ?_; intro A2 c2 w2 o2 _ b2)
          | (refine wpList_appB rfl (.tmp 27) (.tmp 31) rfl wr.heap.size (.slice A2 n c2) n _ (OwnB.alloc o2 _) rfl (some ⟨w2.heap.size, 0, none⟩) 1 1 [dx] rfl rfl (reads_byte w2 _ dx (by rw [← HDZ.out]) _ _) (by omega) (le_alloc b2.size _) wr (b2.alloc b2.size _) (n + 1) (by omega) ?_; intro A3 c3 w3 o3 _ b3; clear o2 b2)
          | (refine wpList_appB rfl (.tmp 33) (.tmp 34) rfl wr.heap.size (.slice A3 (n + 1) c3) (n + 1) _ o3 rfl Ad k cd dg rfl HKL.out (y1.below b3).reads (by omega) b3.size wr b3 (n + 1 + k) (by omega) ?_; intro A4 c4 w4 o4 _ b4; clear o3 b3))
        have h1 := OwnB.cap o4
        have h2 := OwnB.cap_max o4
        have O4 := hid (OwnB.mono o4 bel.size)
        have B4 : Below w.heap.size w w4 := bel.trans (b4.mono bel.size)
        have HE : Hid (enc Z = [dx] ++ dg) := hid (by rw [enc, HZB.out, HKL.out, HDX.out]; rfl)
        clear o4 b4 bel
        go_ret
        refine ⟨A4, c4, _, rfl, ?_, h1, h2, ?_, B4⟩
        · rw [HE.out, HN.out, List.length_append, HKL.out]; simp; omega
        · rw [HE.out, ← List.append_assoc]; simpa using O4.out

end Go.Proofs.Ytkaakbgpkpkeeaa.Sh
