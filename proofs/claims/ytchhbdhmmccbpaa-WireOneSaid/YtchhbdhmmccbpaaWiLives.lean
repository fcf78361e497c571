/-
  lives: the document's examples hold.
-/
import Derived.Test.YtchhbdhmmccbpaaWiCu
namespace Go.Proofs.Ytchhbdhmmccbpaa.Sh
open Go Go.RowKit

theorem be_small {n : Nat} (h : 0 < n) (h2 : n < 256) : be n = [UInt8.ofNat n] := by
  rw [be_pos h, show n / 256 = 0 by omega, be_zero, Nat.mod_eq_of_lt h2]; rfl
theorem enc_256 : enc 256 = [2, 1, 0] := by
  have : be 256 = [1, 0] := by rw [be_pos (by omega), show 256 / 256 = 1 by omega, be_small (by omega) (by omega)]; rfl
  rw [enc, this]; rfl
theorem encText_ab : encText ⟨#[97, 98]⟩ = [1, 2, 97, 98] := by
  have : be 2 = [2] := be_small (by omega) (by omega)
  have h2 : (⟨#[97, 98]⟩ : ByteArray).size = 2 := rfl
  rw [encText, h2, enc, this]; rfl
theorem ns_a : numStep [1, 0] 0 0 0 9 = (0, 0, 2) := by decide +kernel
theorem ns_b : numStep [2, 1] 0 0 0 9 = (0, 0, 3) := by decide +kernel
theorem ts_c : textStep [1, 2, 97, 98] 0 0 2 = ([97, 98], 4, 0) := by decide +kernel
theorem new2 (w : World) (x y : UInt8) (t : TypeId) : Byt (w.alloc (.cells #[.int .u8 (x.toNat : Int), .int .u8 (y.toNat : Int)] t)) (w.alloc (.cells #[.int .u8 (x.toNat : Int), .int .u8 (y.toNat : Int)] t)).heap.size (some ⟨w.heap.size, 0, none⟩) [x, y] := by
  intro _
  refine ⟨_, rfl, by rw [World.size_alloc]; exact Nat.lt_succ_self _, fun j z hz => ?_⟩
  have h := reads_new w #[.int .u8 (x.toNat : Int), .int .u8 (y.toNat : Int)] t (0, 0)
  obtain ⟨ad, he, hc⟩ := h (by simp)
  injection he with he
  subst he
  refine hc j _ ?_
  have hj : j < 2 := (List.getElem?_eq_some_iff.1 hz).1
  match j, hj with
  | 0, _ => simp at hz; subst hz; rfl
  | 1, _ => simp at hz; subst hz; rfl

theorem Cu.lower {T : TypeId} {w : World} {lo lo' hi g n c p : Nat} {A : Option Addr} {l : List UInt8} {e : Int} (h : Cu T w lo hi g A n c l p e) (hl : lo' ≤ lo) : Cu T w lo' hi g A n c l p e :=
  ⟨h.row, h.byt, fun ad ha => Nat.le_trans hl (h.low ad ha), h.hi, h.len, h.cap, h.max, h.place⟩
theorem new_lit (w : World) (x y : UInt8) (zx zy : Int) (hx : zx = (x.toNat : Int)) (hy : zy = (y.toNat : Int)) (t : TypeId) :
    Calls Try.prog 16 #[.slice (some ⟨w.heap.size, 0, none⟩) 2 2] (w.alloc (.cells #[.int .u8 zx, .int .u8 zy] t)) fun er w' => ∃ g A' c', er = .returned (.pointer (some ⟨g, 0, none⟩)) ∧ Cu 49 w' w.heap.size g g A' 2 c' [x, y] 0 0 ∧ w.heap.size ≤ g ∧ Below w.heap.size w w' := by
  subst hx hy
  refine (cu_new (n := 2) (c := 2) rfl (by omega) _ (new2 w x y t)).mono fun er w' ⟨g, A', c', h1, h2, h3, h4⟩ => ?_
  have hs : w.heap.size ≤ (w.alloc (.cells #[.int .u8 (x.toNat : Int), .int .u8 (y.toNat : Int)] t)).heap.size := by rw [World.size_alloc]; exact Nat.le_succ _
  exact ⟨g, A', c', h1, h2.lower hs, Nat.le_trans hs h3, ((Below.refl _ _).alloc (Nat.le_refl _) _).trans (h4.mono hs)⟩
theorem Byt.first {w : World} {B : Nat} {A : Option Addr} {x y : UInt8} {l : List UInt8} (h : Byt w B A (x :: y :: l)) : ∃ ad, A = some ad ∧ w.cell? ad = some (.int .u8 (x.toNat : Int)) ∧ w.cell? ⟨ad.block, ad.off + 1, none⟩ = some (.int .u8 (y.toNat : Int)) := by
  obtain ⟨ad, e, _, hc⟩ := h (by simp)
  refine ⟨ad, e, ?_, ?_⟩
  · rw [← add_zero ad]; exact hc 0 x rfl
  · rw [← add_pos ad 1 (by omega)]; exact hc 1 y rfl

set_option maxHeartbeats 4000000 in
theorem lives_any (w : World) : Calls Try.prog 15 #[] w fun e w' => e = .returned (.bool true) ∧ Below w.heap.size w w' := by
  have HA := hid (number_any none [] 256 0 0 rfl (by omega) (by omega) (by omega) w Byt.nil)
  have HB := hid (fun w => text_any none [] ⟨#[97, 98]⟩ 0 0 rfl (by omega) (by decide) w Byt.nil)
  go_enter Try.func15, Try.ntmps15
  go_wp2_with fail
  refine HA.out.mono ?_
  rintro er w1 ⟨A1, c1, N1, rfl, hN1, hc1, hc1', o1, b1⟩
  obtain rfl : N1 = 3 := by rw [hN1]; simp only [Int.reduceToNat, enc_256]; rfl
  have y1 : Byt w1 w1.heap.size A1 [2, 1, 0] := by have := o1.byt; simpa only [Int.reduceToNat, enc_256, List.nil_append] using this
  clear o1 hN1 hc1'
  go_wp2_with fail
  refine (HB.out w1).mono ?_
  rintro er w2 ⟨A2, c2, N2, rfl, hN2, hc2, hc2', o2, b2⟩
  obtain rfl : N2 = 4 := by rw [hN2, encText_ab]; rfl
  have y2 : Byt w2 w2.heap.size A2 [1, 2, 97, 98] := by have := o2.byt; simpa only [encText_ab, List.nil_append] using this
  clear o2 hN2 hc2'
  have b02 := b1.trans (b2.mono b1.size)
  have y12 := (y1.below b2).more b2.size
  clear b1 b2 y1
  have HC := hid (new_lit w2 1 0 1 0 rfl rfl 5)
  go_wp2_with fail
  refine HC.out.mono ?_
  rintro er w3 ⟨gc, Ac, cc, rfl, C3, hgc, b3⟩
  have lc := C3.lt
  have HD := hid (new_lit w3 2 1 2 1 rfl rfl 5)
  clear HA HB HC
  go_wp2_with fail
  refine HD.out.mono ?_
  rintro er w4 ⟨gd, Ad, cd, rfl, D4, hgd, b4⟩
  have ld := D4.lt
  have C4 := C3.below b4 lc
  have y24 := (y2.below (b3.trans (b4.mono b3.size))).more (Nat.le_trans b3.size b4.size)
  have HF := hid (cu_new (n := 4) (c := c2) rfl (by omega) w4 y24)
  clear HD C3 y24
  go_wp2_with fail
  refine HF.out.mono ?_
  rintro er w5 ⟨gf, Af, cf, rfl, F5, hgf, b5⟩
  have lf := F5.lt
  have D5 := D4.below b5 ld
  have C5 := C4.below b5 (by omega)
  have b25 := (b3.trans (b4.mono b3.size)).trans (b5.mono (Nat.le_trans b3.size b4.size))
  have s3 := b3.size
  have s4 := b4.size
  clear HF C4 D4 b3 b4 b5
  have NC := cu_number C5 0 9
  rw [ns_a] at NC
  have HNC := hid NC
  clear NC
  go_wp2_with fail
  refine HNC.out.mono ?_
  rintro er w6 ⟨rfl, C6, g6⟩
  have D6 := D5.other g6 (by omega) (.inl (by omega))
  have F6 := F5.other g6 (by omega) (.inl (by omega))
  have b26 := b25.grown g6 b25.size (fun k hk => by injection hk with hk; omega)
  clear C5 D5 F5 b25 HNC g6
  have ND := cu_number D6 0 9
  rw [ns_b] at ND
  have HND := hid ND
  clear ND
  go_wp2_with fail
  refine HND.out.mono ?_
  rintro er w7 ⟨rfl, D7, g7⟩
  have C7 := C6.other g7 (by omega) (.inr (by omega))
  have F7 := F6.other g7 (by omega) (.inl (by omega))
  have b27 := b26.grown g7 b26.size (fun k hk => by injection hk with hk; omega)
  clear C6 D6 F6 b26 HND g7
  have NF := cu_text F7 2
  rw [ts_c] at NF
  have HNF := hid NF
  clear NF
  go_wp2_with fail
  refine HNF.out.mono ?_
  rintro er w8 ⟨rfl, F8, g8⟩
  have C8 := C7.other g8 (by omega) (.inr (by omega))
  have D8 := D7.other g8 (by omega) (.inr (by omega))
  have b28 := b27.grown g8 b27.size (fun k hk => by injection hk with hk; omega)
  clear C7 D7 F7 b27 HNF g8
  obtain ⟨a1, rfl, k10, k11⟩ := (y12.below b28).first
  obtain ⟨a2, rfl, k20, k21⟩ := (y2.below b28).first
  have B08 := hid (b02.trans (b28.mono b02.size))
  have e33 : endOf 2 0 3 = 3 := by decide
  have e40 : endOf 4 4 0 = 0 := by decide
  have HE1 := hid (err_any gc Ac 2 cc 0 2 w8 C8.row)
  have HE2 := hid (e33 ▸ end_any gd Ad 2 cd 0 3 w8 D8.row)
  have HE3 := hid (fun k => e40 ▸ end_any gf Af 4 cf 4 0 (w8.drewN k) (F8.row.drewN k))
  have HE4 := hid (fun k => place_any gf Af 4 cf 4 0 (w8.drewN k) (F8.row.drewN k))
  clear C8 D8 F8 b28 y12 y2 b02 e33 e40
  go_wp2_with fail
  refine HE1.out.mono ?_
  rintro er w9 ⟨rfl, rfl⟩
  go_wp2_with fail
  refine HE2.out.mono ?_
  rintro er w9 ⟨rfl, q1, rfl⟩
  go_wp2_with fail
  refine (HE3.out _).mono ?_
  rintro er w9 ⟨rfl, q2, rfl⟩
  go_wp2_with fail
  refine (HE4.out _).mono ?_
  rintro er w9 ⟨rfl, rfl⟩
  go_wp2
  go_ret
  exact ⟨rfl, below_drewN B08.out _⟩
end Go.Proofs.Ytchhbdhmmccbpaa.Sh
