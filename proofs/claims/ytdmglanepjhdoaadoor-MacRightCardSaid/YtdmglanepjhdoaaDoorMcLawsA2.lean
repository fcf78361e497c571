/-
  What the statements of layer 2 call, by contracts over a key and parts that are at hand; the walks of MacTags, MacKeys, MacStays.
-/
import Derived.Test.YtdmglanepjhdoaaDoorMcLives
namespace Go.Proofs.YtdmglanepjhdoaaDoor.Sh
open Go Go.RowKit
attribute [local irreducible] sha hexOf absorb sched rounds keyPad hmac

structure KeyAt (w : World) (A : Option Addr) (n c : Nat) (key : List UInt8) : Prop where
  len : key.length = n
  le : n ≤ c
  max : c ≤ 9223372036854775807
  small : n ≤ 150
  byt : Byt w w.heap.size A key
structure PtsAt (w : World) (R : Option Addr) (r : Nat) (ps : List Part) : Prop where
  len : ps.length = r
  small : r ≤ 6
  flat : (flat ps).length ≤ 700
  rows : RowsAt w w.heap.size R ps
theorem KeyAt.below {w w' : World} {A : Option Addr} {n c : Nat} {key : List UInt8} (h : KeyAt w A n c key) (hb : Below w.heap.size w w') : KeyAt w' A n c key :=
  ⟨h.len, h.le, h.max, h.small, (h.byt.below hb).more hb.size⟩
theorem PtsAt.below {w w' : World} {R : Option Addr} {r : Nat} {ps : List Part} (h : PtsAt w R r ps) (hb : Below w.heap.size w w') : PtsAt w' R r ps :=
  ⟨h.len, h.small, h.flat, (h.rows.below hb).more hb.size⟩
theorem KeyAt.first {w : World} {A : Option Addr} {c : Nat} {l : List UInt8} (hc : l.length ≤ c) (hm : c ≤ 9223372036854775807) (hb : Byt w w.heap.size A l) :
    ∃ n, min 150 l.length = n ∧ KeyAt w A n c (l.take 150) := by
  refine ⟨_, rfl, ?_, ?_, hm, Nat.min_le_left _ _, hb.head⟩
  · rw [List.length_take]
  · omega
/-- What a tag tells. -/
def TagTold (w w' : World) (e : Ending) (l : List UInt8) : Prop := ∃ A' c', e = .returned (.slice A' 32 c') ∧ 32 ≤ c' ∧ c' ≤ 9223372036854775807 ∧ OwnB w' w.heap.size (.slice A' 32 c') 32 l ∧ Below w.heap.size w w'

theorem tagK {w : World} {A R : Option Addr} {n c r : Nat} {key : List UInt8} {ps : List Part} (hk : KeyAt w A n c key) (hp : PtsAt w R r ps) (hT : Tab w) (rc : Nat) :
    Calls Tryd.prog 23 #[.slice A n c, .slice R r rc] w fun e w' => TagTold w w' e (hmac key (flat ps)) :=
  tag_any A R key ps n c r rc hk.len hk.le hk.max (by have := hk.small; omega) hp.len (by have := hp.small; omega) (by have := hp.flat; omega) w hT hk.byt hp.rows
theorem rightK {w : World} {A T R : Option Addr} {n c m tc r : Nat} {key tag : List UInt8} {ps : List Part} (hk : KeyAt w A n c key) (hp : PtsAt w R r ps) (hT : Tab w) (htl : tag.length = m) (hm : m ≤ 1000) (ht : Byt w w.heap.size T tag) (rc : Nat) :
    Calls Tryd.prog 27 #[.slice A n c, .slice T m tc, .slice R r rc] w fun e w' => e = .returned (.bool (decide (tag = hmac key (flat ps)))) ∧ Below w.heap.size w w' :=
  right_any A T R key tag ps n c m tc r rc hk.len hk.le hk.max (by have := hk.small; omega) htl (by omega) hp.len (by have := hp.small; omega) (by have := hp.flat; omega) w hT hk.byt ht hp.rows
theorem refTagK {w : World} {A D : Option Addr} {n c m : Nat} {key data : List UInt8} (hk : KeyAt w A n c key) (hdl : data.length = m) (hm : m ≤ 1000) (hd : Byt w w.heap.size D data) (dc : Nat) :
    Calls Tryd.prog 24 #[.slice A n c, .slice D m dc] w fun e w' => TagTold w w' e (hmac key data) :=
  refTag_any A D key data n c m dc hk.len (by have := hk.small; omega) hdl (by omega) w hk.byt hd
theorem joinedK {w : World} {R : Option Addr} {r : Nat} {ps : List Part} (hp : PtsAt w R r ps) (rc : Nat) :
    Calls Tryd.prog 25 #[.slice R r rc] w fun e w' => ∃ A' N c', e = .returned (.slice A' N c') ∧ (flat ps).length = N ∧ N ≤ 700 ∧ OwnB w' w.heap.size (.slice A' N c') N (flat ps) ∧ Below w.heap.size w w' :=
  (refJoined_any R ps r rc hp.len (by have := hp.small; omega) (by have := hp.flat; omega) w hp.rows).mono fun e w' ⟨A', N, c', he, ho, hb⟩ => ⟨A', N, c', he, ho.len, by rw [← ho.len]; exact hp.flat, ho, hb⟩
theorem cutK {w : World} {R : Option Addr} {r : Nat} {ps : List Part} (hl : ps.length = r) (hm : r ≤ 9223372036854775807) (h : RowsAt w w.heap.size R ps) (rc : Nat) :
    Calls Tryd.prog 22 #[.slice R r rc] w fun e w' => ∃ A' n' c', e = .returned (.slice A' n' c') ∧ PtsAt w' A' n' (cutAll ps) ∧ Below w.heap.size w w' :=
  (cut_any R ps r rc hl hm w h).mono fun e w' ⟨A', n', c', he, h1, h2, h3, hb⟩ => ⟨A', n', c', he, ⟨h1, h2, Nat.le_trans (cutAll_flat ps) (by omega), h3⟩, hb⟩
theorem fewK {w : World} {A : Option Addr} {n c kn : Nat} (hc : n ≤ c) (hm : c ≤ 9223372036854775807) (m : Nat) (hmost : m ≤ 1000) (hk : min m n = kn) :
    Calls Tryd.prog 21 #[.slice A n c, .int .i64 m] w fun e w' => e = .returned (.slice A kn c) ∧ w = w' :=
  hk ▸ few2_any A n c m hc hm hmost w

set_option maxHeartbeats 2000000 in
theorem macTags_walk (A R : Option Addr) (l : List UInt8) (ps : List Part) (c rc : Nat) (hc : l.length ≤ c) (hm : c ≤ 9223372036854775807) (hr : ps.length ≤ 9223372036854775807) (w : World) (hT : Tab w) (hb : Byt w w.heap.size A l) (hp : RowsAt w w.heap.size R ps) :
    Calls Tryd.prog 8 #[.slice A l.length c, .slice R ps.length rc] w fun e w' => e = .returned (.bool true) ∧ Below w.heap.size w w' := by
  obtain ⟨n, hn, hk⟩ := KeyAt.first hc hm hb
  obtain ⟨key, hkey⟩ : ∃ k, k = l.take 150 := ⟨_, rfl⟩
  rw [← hkey] at hk
  have hf := hid (fewK (w := w) (A := A) hc hm 150 (by omega) hn)
  have hcu := hid (cutK rfl hr hp rc)
  obtain ⟨qs, hqs⟩ : ∃ q, q = cutAll ps := ⟨_, rfl⟩
  rw [← hqs] at hcu
  obtain ⟨r0, hr0⟩ : ∃ r, r = ps.length := ⟨_, rfl⟩
  rw [← hr0] at hcu ⊢
  obtain ⟨n0, hn0⟩ : ∃ r, r = l.length := ⟨_, rfl⟩
  rw [← hn0] at hf ⊢
  have hHL := hid (hmac_length key (flat qs))
  have hTT := hid (fun W (hW : Below w.heap.size w W) => hT.below hT.pos hW)
  clear hqs hkey hb hp hr0 hn0 hn hc hr
  go_enter Tryd.func8, Tryd.ntmps8
  go_wp2_with fail
  refine hf.out.mono ?_
  rintro er wr ⟨rfl, rfl⟩
  go_wp2_with fail
  refine hcu.out.mono ?_
  rintro er w1 ⟨R1, r1, rc1, rfl, p1, b1⟩
  have k1 := hk.below b1
  clear hf hcu
  go_wp2_with fail
  refine (tagK k1 p1 (hTT.out _ b1) rc1).mono ?_
  rintro er w2 ⟨A2, c2, rfl, hc2, _, o2, b2⟩
  have b02 := b1.trans (b2.mono b1.size)
  have p2 := p1.below b2
  have k2 := k1.below b2
  have y2 := o2.byt
  clear o2 p1 k1 b2
  go_wp2_with fail
  refine (joinedK p2 rc1).mono ?_
  rintro er w3 ⟨A3, N, c3, rfl, hN, hNs, o3, b3⟩
  have b03 := b02.trans (b3.mono b02.size)
  have k3 := k2.below b3
  have y3 := o3.byt
  have y23 := (y2.below b3).more b3.size
  have HN := hid hN
  clear o3 p2 k2 b3 y2 hN
  go_wp2_with fail
  refine (refTagK k3 HN.out (by omega) y3 c3).mono ?_
  rintro er w4 ⟨A4, c4, rfl, hc4, _, o4, b4⟩
  have b04 := b03.trans (b4.mono b03.size)
  have hq := hid (same_eq A2 A4 _ 32 c2 c4 hHL.out (by omega) w4 ((y23.below b4).more b4.size) o4.byt)
  clear o4 k3 b4 y23 y3
  go_wp2_with fail
  refine hq.out.mono ?_
  rintro er w5 ⟨rfl, q, rfl⟩
  have b05 := below_drewN b04 q
  go_wp2_with fail
  refine (lives2_any _ (hTT.out _ b05)).mono ?_
  rintro er w6 ⟨rfl, b6⟩
  have b06 := b05.trans (b6.mono b05.size)
  go_wp2
  go_ret
  exact ⟨rfl, b06⟩

theorem keyK {w : World} {A : Option Addr} {n c : Nat} {key : List UInt8} (hk : KeyAt w A n c key) (hT : Tab w) (s : ByteArray) (z : Int) (hs : s.size ≤ 1000) :
    Calls Tryd.prog 28 #[.slice A n c, .string s, .int .i64 z] w fun e w' => TagTold w w' e (hmac key (keyData s.data.toList z)) :=
  key_any A key s z n c hk.len hk.le hk.max (by have := hk.small; omega) (by omega) w hT hk.byt
theorem refKeyK {w : World} {A : Option Addr} {n c : Nat} {key : List UInt8} (hk : KeyAt w A n c key) (s : ByteArray) (z : Int) (hs : s.size ≤ 1000) (h0 : -9223372036854775808 ≤ z) (h1 : z ≤ 9223372036854775807) :
    Calls Tryd.prog 29 #[.slice A n c, .string s, .int .i64 z] w fun e w' => TagTold w w' e (hmac key (keyData s.data.toList z)) :=
  refKey_any A key s z n c hk.len (by have := hk.small; omega) (by omega) h0 h1 w hk.byt

set_option maxHeartbeats 2000000 in
theorem macKeys_walk (A : Option Addr) (l : List UInt8) (s : ByteArray) (z : Int) (c : Nat) (hc : l.length ≤ c) (hm : c ≤ 9223372036854775807) (hs : s.size ≤ 9223372036854775807) (hz0 : -9223372036854775808 ≤ z) (hz1 : z ≤ 9223372036854775807) (w : World) (hT : Tab w) (hb : Byt w w.heap.size A l) :
    Calls Tryd.prog 12 #[.slice A l.length c, .string s, .int .i64 z] w fun e w' => e = .returned (.bool true) ∧ Below w.heap.size w w' := by
  obtain ⟨n, hn, hk⟩ := KeyAt.first hc hm hb
  obtain ⟨key, hkey⟩ : ∃ k, k = l.take 150 := ⟨_, rfl⟩
  rw [← hkey] at hk
  have hf := hid (fewK (w := w) (A := A) hc hm 150 (by omega) hn)
  obtain ⟨n0, hn0⟩ : ∃ r, r = l.length := ⟨_, rfl⟩
  rw [← hn0] at hf ⊢
  have hHL := hid (fun x => hmac_length key x)
  have hTT := hid (fun W (hW : Below w.heap.size w W) => hT.below hT.pos hW)
  clear hkey hb hn0 hn hc
  by_cases h40 : 40 < s.size
  · obtain ⟨t, ht⟩ : ∃ t, t = s.extract 0 40 := ⟨_, rfl⟩
    have hts : t.size ≤ 1000 := by rw [ht, ByteArray.size_extract]; omega
    have HT := hid ht
    clear ht
    go_enter Tryd.func12, Tryd.ntmps12
    go_wp2_with fail
    refine hf.out.mono ?_
    rintro er wr ⟨rfl, rfl⟩
    clear hf
    go_wp2_with fail
    rw [← HT.out]
    refine (keyK hk (hTT.out _ (Below.refl _ _)) t z hts).mono ?_
    rintro er w1 ⟨A1, c1, rfl, hc1, _, o1, b1⟩
    have k1 := hk.below b1
    have y1 := o1.byt
    clear o1
    go_wp2_with fail
    refine (refKeyK k1 t z hts hz0 hz1).mono ?_
    rintro er w2 ⟨A2, c2, rfl, hc2, _, o2, b2⟩
    have b02 := b1.trans (b2.mono b1.size)
    have hq := hid (same_eq A1 A2 _ 32 c1 c2 (hHL.out _) (by omega) w2 ((y1.below b2).more b2.size) o2.byt)
    clear o2 y1 k1 b2 b1
    go_wp2_with fail
    refine hq.out.mono ?_
    rintro er w3 ⟨rfl, q, rfl⟩
    have b03 := below_drewN b02 q
    go_wp2_with fail
    refine (lives2_any _ (hTT.out _ b03)).mono ?_
    rintro er w4 ⟨rfl, b4⟩
    have b04 := b03.trans (b4.mono b03.size)
    go_wp2
    go_ret
    exact ⟨rfl, b04⟩
  · have hts : s.size ≤ 1000 := by omega
    go_enter Tryd.func12, Tryd.ntmps12
    go_wp2_with fail
    refine hf.out.mono ?_
    rintro er wr ⟨rfl, rfl⟩
    clear hf
    go_wp2_with fail
    refine (keyK hk (hTT.out _ (Below.refl _ _)) s z hts).mono ?_
    rintro er w1 ⟨A1, c1, rfl, hc1, _, o1, b1⟩
    have k1 := hk.below b1
    have y1 := o1.byt
    clear o1
    go_wp2_with fail
    refine (refKeyK k1 s z hts hz0 hz1).mono ?_
    rintro er w2 ⟨A2, c2, rfl, hc2, _, o2, b2⟩
    have b02 := b1.trans (b2.mono b1.size)
    have hq := hid (same_eq A1 A2 _ 32 c1 c2 (hHL.out _) (by omega) w2 ((y1.below b2).more b2.size) o2.byt)
    clear o2 y1 k1 b2 b1
    go_wp2_with fail
    refine hq.out.mono ?_
    rintro er w3 ⟨rfl, q, rfl⟩
    have b03 := below_drewN b02 q
    go_wp2_with fail
    refine (lives2_any _ (hTT.out _ b03)).mono ?_
    rintro er w4 ⟨rfl, b4⟩
    have b04 := b03.trans (b4.mono b03.size)
    go_wp2
    go_ret
    exact ⟨rfl, b04⟩

set_option maxHeartbeats 2000000 in
theorem macStays_walk (A R : Option Addr) (l : List UInt8) (ps : List Part) (c rc : Nat) (hc : l.length ≤ c) (hm : c ≤ 9223372036854775807) (hr : ps.length ≤ 9223372036854775807) (w : World) (hT : Tab w) (hb : Byt w w.heap.size A l) (hp : RowsAt w w.heap.size R ps) :
    Calls Tryd.prog 13 #[.slice A l.length c, .slice R ps.length rc] w fun e w' => e = .returned (.bool true) ∧ Below w.heap.size w w' := by
  obtain ⟨n, hn, hk⟩ := KeyAt.first hc hm hb
  obtain ⟨key, hkey⟩ : ∃ k, k = l.take 150 := ⟨_, rfl⟩
  rw [← hkey] at hk
  have hf := hid (fewK (w := w) (A := A) hc hm 150 (by omega) hn)
  have hcu := hid (cutK rfl hr hp rc)
  obtain ⟨qs, hqs⟩ : ∃ q, q = cutAll ps := ⟨_, rfl⟩
  rw [← hqs] at hcu
  obtain ⟨r0, hr0⟩ : ∃ r, r = ps.length := ⟨_, rfl⟩
  rw [← hr0] at hcu ⊢
  obtain ⟨n0, hn0⟩ : ∃ r, r = l.length := ⟨_, rfl⟩
  rw [← hn0] at hf ⊢
  have hTT := hid (fun W (hW : Below w.heap.size w W) => hT.below hT.pos hW)
  have HKL := hid hk.len
  have hks := hk.small
  clear hqs hkey hb hp hr0 hn0 hn hc hr
  go_enter Tryd.func13, Tryd.ntmps13
  go_wp2_with fail
  refine hf.out.mono ?_
  rintro er wr ⟨rfl, rfl⟩
  go_wp2_with fail
  refine hcu.out.mono ?_
  rintro er w1 ⟨R1, r1, rc1, rfl, p1, b1⟩
  have k1 := hk.below b1
  clear hf hcu
  go_wp2_with (at_builtin; (refine wpList_appB rfl (.tmp 15) (.tmp 16) rfl w1.heap.size (.slice none 0 0) 0 [] (OwnB.nil _ _) rfl A n c key rfl HKL.out k1.byt.reads (by omega) (Nat.le_refl _) w1 (Below.refl _ _) n (by omega) ?_; intro A2 c2 w2 o2 _ b2))
  have b02 := b1.trans (b2.mono b1.size)
  have p2 := p1.below b2
  have k2 := k1.below b2
  have y2 : Byt w2 w2.heap.size A2 key := o2.byt
  clear o2 p1 k1 b2
  refine (joinedK p2 rc1).mono ?_
  rintro er w3 ⟨A3, N, c3, rfl, hN, hNs, o3, b3⟩
  have b03 := b02.trans (b3.mono b02.size)
  have p3 := p2.below b3
  have k3 := k2.below b3
  have y3 := o3.byt
  have y23 := (y2.below b3).more b3.size
  have HN := hid hN
  clear o3 p2 k2 b3 y2 hN
  go_wp2_with fail
  refine (tagK k3 p3 (hTT.out _ b03) rc1).mono ?_
  rintro er w4 ⟨A4, c4, rfl, hc4, _, o4, b4⟩
  obtain ⟨g, cap5, hv5, hg5, _⟩ := World.ownsRow.form o4 (by omega)
  injection hv5 with hA5 _ hcap5
  subst hA5 hcap5
  go_wp2
  go_loopw [8] (fun i wq => ∃ (k : Nat) (xs : List Value), k ≤ 32 ∧ i = .int .i64 k ∧ Hid (wq.ownsRow w3.heap.size 5 1 (.slice (some ⟨g, 0, none⟩) 32 c4) 32 xs) ∧ Below w3.heap.size w3 wq) (fun i _ => 32 - (intOf i).toNat)
  case atStart => exact ⟨0, _, by omega, rfl, hid o4, b4⟩
  case round =>
    clear o4 b4
    obtain ⟨k, xs, hk', rfl, ow, bq⟩ := hrel
    by_cases hlt : k < 32
    · obtain ⟨u, hu⟩ : ∃ u, wr.cell? ⟨g, k, none⟩ = some u := by
        have hx := ow.out.1
        rw [ow.out.cellAt k (by omega)]
        exact ⟨xs[k], List.getElem?_eq_getElem (by omega)⟩
      have hfz := ow.out.frozenAt k
      have ow2 := hid (ow.out.stored k (.int .u8 7)).1
      have bq2 := bq.setCell (p := ⟨g, k, none⟩) hg5 (.int .u8 7)
      have hk0 : (0 : Int) ≤ (k : Int) := Int.natCast_nonneg _
      have hk1 : (k : Int) < 32 := by omega
      go_wp2
      go_roundw
      case rel => exact ⟨k + 1, _, by omega, by go_num, ow2, bq2⟩
      case measure => simp [intOf]; omega
    · obtain rfl : k = 32 := by omega
      have b04 := b03.trans (bq.mono b03.size)
      have p4 := p3.below bq
      have k4 := k3.below bq
      have y24 := (y23.below bq).more bq.size
      have y34 := (y3.below bq).more bq.size
      have hq1 := hid (same_eq A2 A key n c2 c HKL.out (by omega) wr y24 k4.byt)
      clear ow p3 k3 y23 y3 bq k4 y24
      go_wp2_with fail
      refine hq1.out.mono ?_
      rintro er w5 ⟨rfl, q, rfl⟩
      have b05 := below_drewN b04 q
      have p5 : PtsAt (wr.drewN q) R1 r1 qs := ⟨p4.len, p4.small, p4.flat, p4.rows⟩
      have y35 : Byt (wr.drewN q) (wr.drewN q).heap.size A3 (flat qs) := y34
      clear hq1 p4 y34 b04
      go_wp2_with fail
      refine (joinedK p5 rc1).mono ?_
      rintro er w6 ⟨A6, N6, c6, rfl, hN6, hN6s, o6, b6⟩
      obtain rfl : N = N6 := HN.out.symm.trans hN6
      have b06 := b05.trans (b6.mono b05.size)
      have hq2 := hid (same_eq A3 A6 _ N c3 c6 HN.out (by omega) w6 ((y35.below b6).more b6.size) o6.byt)
      clear o6 p5 y35 b6 hN6
      go_wp2_with fail
      refine hq2.out.mono ?_
      rintro er w7 ⟨rfl, q2, rfl⟩
      have b07 := below_drewN b06 q2
      go_wp2_with fail
      refine (lives2_any _ (hTT.out _ b07)).mono ?_
      rintro er w8 ⟨rfl, b8⟩
      have b08 := b07.trans (b8.mono b07.size)
      go_wp2
      go_ret
      exact ⟨rfl, b08⟩
end Go.Proofs.YtdmglanepjhdoaaDoor.Sh
