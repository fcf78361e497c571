/-
  The walk of WireOwns.
-/
import Derived.Test.YtchhbdhmmccbpaaWiLawB
namespace Go.Proofs.Ytchhbdhmmccbpaa.Sh
open Go Go.RowKit

theorem nines_get (l : List UInt8) (i : Nat) (hi : i < 20) : (l ++ List.replicate 20 (9 : UInt8))[l.length + i]? = some 9 := by
  rw [List.getElem?_append_right (by omega), Nat.add_sub_cancel_left, List.getElem?_replicate, if_pos hi]
theorem encText_small (s : ByteArray) (hs : s.size ≤ 300) : (encText s).length ≤ 309 := by
  rw [encText_length]
  have := enc_len_le (n := s.size) (by omega)
  omega
/-- A row of the call's own, whatever it holds. -/
def Open (w : World) (g n : Nat) : Prop := ∃ cs : Array Value, w.heap[g]? = some (.cells cs 5 (0, 0)) ∧ n ≤ cs.size
theorem Open.cell {w : World} {g n j : Nat} (h : Open w g n) (hj : j < n) : ∃ v, w.cell? ⟨g, j, none⟩ = some v := by
  obtain ⟨cs, h, hn⟩ := h
  exact ⟨cs[j], by rw [cell_of_row w g j _ _ (0, 0) h]; simp⟩
theorem Open.frozen {w : World} {g n : Nat} (h : Open w g n) (j : Nat) : w.frozen? ⟨g, j, none⟩ = false := by
  obtain ⟨cs, h, _⟩ := h
  exact frozen_of_row w g j _ _ h
theorem Open.set {w : World} {g n : Nat} (h : Open w g n) (j : Nat) (u : Value) : Open (w.setCell ⟨g, j, none⟩ u) g n := by
  obtain ⟨cs, h, hn⟩ := h
  exact ⟨_, heap_setCell_same w g j _ _ u h, by simpa using hn⟩
theorem Open.kept {w w' : World} {g n : Nat} (h : Open w g n) (hb : Below w.heap.size w w') : Open w' g n := by
  obtain ⟨cs, h, hn⟩ := h
  exact ⟨cs, (hb.block g (Array.getElem?_eq_some_iff.1 h).1).trans h, hn⟩
theorem open_own {w : World} {B n c : Nat} {A : Option Addr} {l : List UInt8} (h : OwnB w B (.slice A n c) n l) (hn : 0 < n) : ∃ g, A = some ⟨g, 0, none⟩ ∧ B ≤ g ∧ g < w.heap.size ∧ Open w g n := by
  rcases h.2 with ⟨hv, h0⟩ | ⟨g, cap, cur, hv, hB, hg, hc, _, hs, _⟩
  · omega
  · injection hv with h1 _ h3
    exact ⟨g, h1, hB, (Array.getElem?_eq_some_iff.1 hg).1, cur, hg, by omega⟩

set_option maxHeartbeats 8000000 in
theorem wireOwns_walk (A : Option Addr) (l : List UInt8) (z : Int) (n c : Nat) (hn : l.length = n) (hc : n ≤ c)
    (hz : z < 9223372036854775808) (hz0 : -9223372036854775808 ≤ z) (w : World) (hb : Byt w w.heap.size A l) :
    Calls Try.prog 8 #[.slice A n c, .int .i64 z] w fun e w' => e = .returned (.bool true) ∧ Below w.heap.size w w' := by
  have F1 := hid (few_any A l n c 60 hn hc w)
  obtain ⟨hb1, hl1⟩ := hb.few (k := 60) hn
  obtain ⟨l1, hl1'⟩ : ∃ l1, l1 = l.take 60 := ⟨_, rfl⟩
  obtain ⟨n1, hn1⟩ : ∃ n1, n1 = min 60 n := ⟨_, rfl⟩
  rw [← hl1'] at hb1 hl1
  rw [← hn1] at hl1 F1
  have hn60 : n1 ≤ 60 := by omega
  have hnc : n1 ≤ c := by omega
  have HL := hid hl1
  have HY := hid hb1
  clear hn hb hl1' hn1 hb1 hl1
  go_enter Try.func8, Try.ntmps8
  go_wp2_with fail
  refine F1.out.mono ?_
  rintro er w' ⟨rfl, rfl⟩
  clear F1
  go_wp2_with (at_builtin; refine wpList_appB rfl (.tmp 13) (.tmp 14) rfl w.heap.size (.slice none 0 0) 0 [] (OwnB.nil _ _) rfl A n1 c l1 rfl HL.out HY.out.reads (by omega) (Nat.le_refl _) w (Below.refl _ _) n1 (by omega) ?_; intro A2 c2 w2 o2 _ b2)
  rw [List.nil_append] at o2
  go_loopw [5, 6] (fun v i wr => ∃ (j N cr : Nat) (Ar : Option Addr), v = .slice Ar N cr ∧ i = .int .i64 (j : Int) ∧ j ≤ 20 ∧ N ≤ 80 ∧ Hid (N = n1 + j) ∧ OwnB wr w.heap.size (.slice Ar N cr) N (l1 ++ List.replicate j 9) ∧ Below w.heap.size w wr) (fun _ i _ => 20 - (intOf i).toNat)
  case atStart => exact ⟨0, n1, c2, A2, rfl, rfl, by omega, by omega, hid (by omega), by simpa using o2, b2⟩
  case round =>
    clear o2 b2
    obtain ⟨j, N, cr, Ar, rfl, rfl, hj, hN80, HN, own, bel⟩ := hrel
    by_cases hlt : j < 20
    · have hlt' : (j : Int) < 20 := by omega
      go_wp2_with (at_builtin; refine wpList_appB rfl (.tmp 20) (.tmp 21) rfl w.heap.size (.slice Ar N cr) N _ (OwnB.alloc own _) rfl (some ⟨wr.heap.size, 0, none⟩) 1 1 [9] rfl rfl (reads_one wr 9 _ _) (by omega) (le_alloc bel.size _) w (bel.alloc bel.size _) (N + 1) (by omega) ?_; intro A4 c4 w4 o4 _ b4; clear own bel)
      have o5 : Hid (OwnB w4 w.heap.size (.slice A4 (N + 1) c4) (N + 1) (l1 ++ List.replicate (j + 1) 9)) := hid (by rw [List.replicate_succ', ← List.append_assoc]; exact o4)
      clear o4
      go_roundw
      case rel => exact ⟨j + 1, N + 1, c4, A4, rfl, by go_num, by omega, by have := HN.out; omega, hid (by have := HN.out; omega), o5.out, b4⟩
      case measure => simp [intOf]; omega
    · obtain rfl : j = 20 := by omega
      have hNe := HN.out
      obtain ⟨g, rfl, hg0, hg1, hop⟩ := open_own own (by omega)
      have hcap := own.cap
      have y0 := own.byt
      have hAll := own.len
      have yl : Byt wr wr.heap.size (some ⟨g, 0, none⟩) l1 := by
        have h := y0.head (hi := n1)
        rwa [List.take_append_of_le_length (by rw [HL.out]; exact Nat.le_refl _), List.take_of_length_le (by rw [HL.out]; exact Nat.le_refl _)] at h
      have HNUM := hid (number_any (some ⟨g, 0, none⟩) l1 z n1 cr HL.out (by omega) hz hz0 wr yl)
      have HTXT := hid (fun W (hW : Below wr.heap.size wr W) => text_any (some ⟨g, 0, none⟩) l1 ⟨#[97, 98]⟩ n1 cr HL.out (by omega) (by decide) W ((yl.below hW).more hW.size))
      have HNEW := hid (fun W (hW : Below wr.heap.size wr W) => cu_new (A := some ⟨g, 0, none⟩) (l := l1) (n := n1) (c := cr) HL.out (by omega) W ((yl.below hW).more hW.size))
      have hn1N : (n1 : Int) ≤ (N : Int) := by omega
      have hNcr : (N : Int) ≤ (cr : Int) := by omega
      have HOP := hid hop
      have HY0 := hid y0
      have hN20 : (n1 : Int) + 20 ≤ (N : Int) := by omega
      clear own hop y0 yl hNe
      go_wp2_with fail
      refine HNUM.out.mono ?_
      rintro er w5 ⟨A5, c5, N5, rfl, _, _, _, _, b5⟩
      clear HNUM
      go_wp2_with fail
      refine (HTXT.out w5 b5).mono ?_
      rintro er w6 ⟨A6, c6, N6, rfl, _, _, _, _, b6⟩
      have b06 := b5.trans (b6.mono b5.size)
      have HY6 := hid (HY0.out.below b06)
      have HOP6 := hid (HOP.out.kept b06)
      have hs6 := b06.size
      have b16 := bel.trans (b06.mono bel.size)
      clear HTXT b5 b6 HOP HY0
      go_wp2
      go_loopw [7] (fun i wq => ∃ j : Nat, i = .int .i64 (j : Int) ∧ j ≤ 20 ∧ w6 = wq) (fun i _ => 20 - (intOf i).toNat)
      case atStart => exact ⟨0, rfl, by omega, rfl⟩
      case round =>
        obtain ⟨j, rfl, hj, rfl⟩ := hrel
        by_cases hlt : j < 20
        · obtain ⟨Q, hQ⟩ : ∃ Q, Q = n1 + j := ⟨_, rfl⟩
          have hq : (n1 : Int) + (j : Int) = (Q : Int) := by omega
          have hQN : (Q : Int) < (N : Int) := by omega
          have hQ0 : (0 : Int) ≤ (Q : Int) := Int.natCast_nonneg _
          have hlt' : (j : Int) < 20 := by omega
          have hcell : w6.cell? ⟨g, Q, none⟩ = some (.int .u8 9) := by
            obtain ⟨ad, x, h1, _, hx, hc⟩ := HY6.out.get (k := Q) (by rw [hAll]; omega)
            injection h1 with h1
            subst h1
            have h9 := nines_get l1 j hlt
            rw [HL.out, ← hQ, hx] at h9
            injection h9 with h9
            subst h9
            have e : (⟨g, 0, none⟩ : Addr).add Q = ⟨g, Q, none⟩ := by
              unfold Addr.add
              split
              · rename_i h; rw [h]
              · simp
            rw [e] at hc
            exact hc
          clear hQ
          go_wp2
          go_roundw
          case rel => exact ⟨j + 1, by go_num, by omega, trivial⟩
          case measure => simp [intOf]; omega
        · obtain rfl : j = 20 := by omega
          go_wp2_with fail
          refine (HNEW.out w6 b06).mono ?_
          rintro er w7 ⟨gc, Ac, cc, rfl, C7, hgc, b7⟩
          have lc := C7.lt
          have b07 := b16.trans (b7.mono b16.size)
          have HOP7 := hid (HOP6.out.kept b7)
          have bx : Below w7.heap.size w7 (w7.alloc (.cells #[.slice A n1 c, .int .i64 0, .int .i64 0] 34)) := (Below.refl _ _).alloc (Nat.le_refl _) _
          have C8 := hid (C7.below bx lc)
          have b08 := hid (b07.trans (bx.mono b07.size))
          have X8 : Hid (Cu 34 (w7.alloc (.cells #[.slice A n1 c, .int .i64 0, .int .i64 0] 34)) 0 w.heap.size w7.heap.size A n1 c l1 0 0) :=
            hid ⟨heap_alloc_new w7 _, HY.out.below b08.out, fun _ _ => Nat.zero_le _, b07.size, HL.out, hnc, by omega, Nat.zero_le _⟩
          have HOP8 := hid (HOP7.out.kept bx)
          have s7 := b7.size
          clear HNEW C7 b7 b07 HOP7 bx HOP6 HY6 b16 b06
          go_wp2
          go_loopw [10] (fun i wq => ∃ j : Nat, i = .int .i64 (j : Int) ∧ j ≤ N ∧ Hid (Open wq g N) ∧ Hid (Cu 49 wq w6.heap.size gc gc Ac n1 cc l1 0 0) ∧ Hid (Cu 34 wq 0 w.heap.size w7.heap.size A n1 c l1 0 0) ∧ Hid (Below w.heap.size w wq)) (fun i _ => N - (intOf i).toNat)
          case atStart => exact ⟨0, rfl, by omega, HOP8, C8, X8, b08⟩
          case round =>
            clear HOP8 C8 X8 b08
            obtain ⟨j, rfl, hj, HOP, C, X, B⟩ := hrel
            by_cases hjN : j < N
            · obtain ⟨v, hv⟩ := HOP.out.cell hjN
              have fz := HOP.out.frozen j
              have hj1 : (j : Int) < (N : Int) := by omega
              have hj0 : (0 : Int) ≤ (j : Int) := Int.natCast_nonneg _
              go_wp2
              have g1 := grown_set wr g j (.int .u8 7)
              have C9 := hid (C.out.other g1 (by omega) (.inl (by omega)))
              have X9 := hid (X.out.other g1 (by omega) (.inr (by omega)))
              have B9 := hid (B.out.setCell (p := ⟨g, j, none⟩) hg0 (.int .u8 7))
              have O9 := hid (HOP.out.set j (.int .u8 7))
              clear hv fz HOP C X B g1
              go_roundw
              case rel => exact ⟨j + 1, by go_num, by omega, O9, C9, X9, B9⟩
              case measure => simp [intOf]; omega
            · obtain rfl : j = N := by omega
              obtain ⟨S, q, r, hts⟩ : ∃ S q r, textStep l1 0 0 100 = (S, q, r) := ⟨_, _, _, rfl⟩
              have NS := cu_text C.out 100
              rw [hts] at NS
              have HC := hid NS
              clear NS
              go_wp2_with fail
              refine HC.out.mono ?_
              rintro er w9 ⟨rfl, C9, g9⟩
              have X9 := X.out.other g9 (by omega) (.inr (by omega))
              have b9 := B.out.grown g9 B.out.size (fun k hk => by injection hk with hk; omega)
              have NS := rcu_text X9 100
              rw [hts] at NS
              have HX := hid NS
              clear NS HC C9 X9 g9 C X B
              go_wp2_with fail
              refine HX.out.mono ?_
              rintro er w10 ⟨rfl, X10, g10⟩
              have b10 := b9.grown g10 b9.size (fun k hk => by injection hk with hk; omega)
              clear HX X10 g10 b9
              go_wp2_with fail
              refine (lives_any w10).mono ?_
              rintro er w11 ⟨rfl, b11⟩
              have b011 := b10.trans (b11.mono b10.size)
              go_wp2
              go_ret
              exact ⟨rfl, b011⟩
end Go.Proofs.Ytchhbdhmmccbpaa.Sh
