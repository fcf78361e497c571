/-
  The walks of ShaSums, ShaLong and ShaStays, out of the contracts.
-/
import Derived.Test.YtdmglanepjhdoaaDoorShRefS
import Derived.Test.YtdmglanepjhdoaaDoorShLives
namespace Go.Proofs.YtdmglanepjhdoaaDoor.Sh
open Go Go.RowKit
attribute [local irreducible] sha hexOf absorb sched rounds

/-- What Told tells, as a slice of a known length. -/
theorem Told.at {e : TypeId} {w0 w' : World} {v : Value} {l : List UInt8} {n : Nat} (h : Told e w0 w' v l) (hn : l.length = n) : ∃ A c, v = .slice A n c ∧ n ≤ c ∧ Byt w' w'.heap.size A l ∧ Below w0.heap.size w0 w' ∧ w'.ownsRow w0.heap.size e 1 (.slice A n c) n (bv l) := by
  subst hn
  have h' := h
  obtain ⟨A, c, rfl, hc, hb⟩ := h.slice
  exact ⟨A, c, rfl, hc, hb, h'.2, h'.1⟩
theorem same_eq (A B : Option Addr) (l : List UInt8) (n c d : Nat) (hn : l.length = n) (hm : n ≤ 1099511627776) (w : World) (h : Byt w w.heap.size A l) (h' : Byt w w.heap.size B l) :
    Calls Tryd.prog 15 #[.slice A n c, .slice B n d] w fun e w' => e = .returned (.bool true) ∧ ∃ k, w' = w.drewN k := by
  subst hn
  refine (same_any A B l l c d hm hm w h h').mono fun e w' ⟨he, hw⟩ => ⟨?_, hw⟩
  rw [he]
  simp
theorem sum_at (A : Option Addr) (l : List UInt8) (n c : Nat) (hn : l.length = n) (hc : n ≤ c) (hcm : c ≤ 9223372036854775807) (hL : n ≤ 1099511627776) (w : World) (hT : Tab w) (hbyt : Byt w w.heap.size A l) :
    Calls Tryd.prog 16 #[.slice A n c] w fun e w' => ∃ A' c', e = .returned (.slice A' 32 c') ∧ 32 ≤ c' ∧ Byt w' w'.heap.size A' (sha l) ∧ Below w.heap.size w w' ∧ w'.ownsRow w.heap.size 5 1 (.slice A' 32 c') 32 (bv (sha l)) := by
  subst hn
  refine (sum_any A l c hc hcm hL w hT hbyt).mono fun e w' ⟨v, he, ht⟩ => ?_
  obtain ⟨A', c', rfl, h1, h2, h3, h4⟩ := ht.at (sha_length l)
  exact ⟨A', c', he, h1, h2, h3, h4⟩
theorem refSum_at (A : Option Addr) (l : List UInt8) (n c : Nat) (hn : l.length = n) (hL : n ≤ 1099511627776) (w : World) (hbyt : Byt w w.heap.size A l) :
    Calls Tryd.prog 17 #[.slice A n c] w fun e w' => ∃ A' c', e = .returned (.slice A' 32 c') ∧ 32 ≤ c' ∧ Byt w' w'.heap.size A' (sha l) ∧ Below w.heap.size w w' ∧ w'.ownsRow w.heap.size 5 1 (.slice A' 32 c') 32 (bv (sha l)) := by
  subst hn
  refine (refSum_any A l c hL w hbyt).mono fun e w' ⟨v, he, ht⟩ => ?_
  obtain ⟨A', c', rfl, h1, h2, h3, h4⟩ := ht.at (sha_length l)
  exact ⟨A', c', he, h1, h2, h3, h4⟩

theorem OwnB.cap_max {w : World} {B n c : Nat} {A : Option Addr} {l : List UInt8} (h : OwnB w B (.slice A n c) n l) : c ≤ 9223372036854775807 := by
  rcases h.2 with ⟨hv, _⟩ | ⟨g, cap, cur, hv, _, _, _, hm, _⟩
  · injection hv with _ _ h3
    omega
  · injection hv with _ _ h3
    unfold maxLen at hm
    omega
set_option maxHeartbeats 1000000 in
theorem shaSums_walk (A : Option Addr) (l : List UInt8) (c : Nat) (hc : l.length ≤ c) (hm : c ≤ 9223372036854775807) (w : World) (hT : Tab w) (hb : Byt w w.heap.size A l) :
    Calls Tryd.prog 3 #[.slice A l.length c] w fun e w' => e = .returned (.bool true) ∧ Below w.heap.size w w' := by
  have hf := hid (few_any A l c hc (by omega) w)
  have hl : (l.take 400).length ≤ 400 := List.length_take_le _ _
  have hlc : (l.take 400).length ≤ c := Nat.le_trans (by rw [List.length_take]; exact Nat.min_le_right _ _) hc
  obtain ⟨l', hl'⟩ : ∃ l', l' = l.take 400 := ⟨_, rfl⟩
  have hb' : Byt w w.heap.size A (l.take 400) := hb.head
  rw [← hl'] at hf hl hlc hb'
  obtain ⟨n, hn⟩ : ∃ n, l'.length = n := ⟨_, rfl⟩
  rw [hn] at hf hl hlc
  have hs := hid (sum_at A l' n c hn hlc hm (by omega) w hT hb')
  have hr := hid (fun w1 (h1 : Below w.heap.size w w1) => refSum_at A l' n c hn (by omega) w1 ((hb'.below h1).more h1.size))
  have hz := hid (fun w1 (h1 : Below w.heap.size w w1) => lives_any w1 (hT.below hT.pos h1))
  have hd := hid (sha_length l')
  clear hl' hb hc hT hb' hn
  go_enter Tryd.func3, Tryd.ntmps3
  go_wp2_with fail
  refine hf.out.mono ?_
  rintro er wr ⟨rfl, rfl⟩
  go_wp2_with fail
  refine hs.out.mono ?_
  rintro er w1 ⟨A1, c1, rfl, _, y1, b1, _⟩
  go_wp2_with fail
  refine (hr.out w1 b1).mono ?_
  rintro er w2 ⟨A2, c2, rfl, _, y2, b2, _⟩
  have b02 := b1.trans (b2.mono b1.size)
  have hq := hid (same_eq A1 A2 (sha l') 32 c1 c2 hd.out (by omega) w2 ((y1.below b2).more b2.size) y2)
  clear y1 y2 b1 b2
  go_wp2_with fail
  refine hq.out.mono ?_
  rintro er w3 ⟨rfl, k, rfl⟩
  have b03 := below_drewN b02 k
  go_wp2_with fail
  refine (hz.out _ b03).mono ?_
  rintro er w4 ⟨rfl, b4⟩
  have b04 := b03.trans (b4.mono b03.size)
  go_wp2
  go_ret
  exact ⟨rfl, b04⟩

theorem neg_rem (n : Int) (h : n < 0) : -(n + 1).tmod 300 = (-(n + 1)) % 300 := by
  rw [← Int.neg_tmod, Int.tmod_eq_emod_of_nonneg (by omega)]
theorem rem300 (n : Int) : ∃ N : Nat, N < 300 ∧ n % 300 = (N : Int) := ⟨(n % 300).toNat, by omega, by omega⟩

set_option maxHeartbeats 2000000 in
theorem shaLong_walk (x : UInt8) (n : Int) (h1 : -9223372036854775808 ≤ n) (h2 : n ≤ 9223372036854775807) (w : World) (hT : Tab w) :
    Calls Tryd.prog 4 #[.int .u8 x.toNat, .int .i64 n] w fun e w' => e = .returned (.bool true) ∧ Below w.heap.size w w' := by
  have hx := lt8 x
  obtain ⟨N, hN, hc⟩ : ∃ N : Nat, N < 300 ∧ ((n < 0 ∧ (-(n + 1)) % 300 = (N : Int)) ∨ (0 ≤ n ∧ n % 300 = (N : Int))) := by
    by_cases h : n < 0
    · obtain ⟨N, h3, h4⟩ := rem300 (-(n + 1))
      exact ⟨N, h3, .inl ⟨h, h4⟩⟩
    · obtain ⟨N, h3, h4⟩ := rem300 n
      exact ⟨N, h3, .inr ⟨by omega, h4⟩⟩
  have hs := hid (fun A c W (hc : N ≤ c) (hcm : c ≤ 9223372036854775807) (hW : Tab W) (hb : Byt W W.heap.size A (List.replicate N x)) => sum_at A (List.replicate N x) N c List.length_replicate hc hcm (by omega) W hW hb)
  have hr := hid (fun A c W (hb : Byt W W.heap.size A (List.replicate N x)) => refSum_at A (List.replicate N x) N c List.length_replicate (by omega) W hb)
  have hz := hid (fun w1 (h1 : Below w.heap.size w w1) => lives_any w1 (hT.below hT.pos h1))
  have hTT := hid (fun w1 (h1 : Below w.heap.size w w1) => hT.below hT.pos h1)
  have hd := hid (sha_length (List.replicate N x))
  clear hT
  rcases hc with ⟨hn, he⟩ | ⟨hn, he⟩
  all_goals
    have HE := hid he
    clear he
    go_enter Tryd.func4, Tryd.ntmps4
    go_wp2
    first
      | rw [HE.out]
      | rw [neg_rem n hn, HE.out]
    clear HE
    go_loopw [5, 6] (fun v i wr => ∃ (k : Nat) (A : Option Addr) (c : Nat), k ≤ N ∧ i = .int .i64 k ∧ v = .slice A k c ∧ OwnB wr w.heap.size v k (List.replicate k x) ∧ Below w.heap.size w wr) (fun _ i _ => N - (intOf i).toNat)
    case atStart => exact ⟨0, none, 0, Nat.zero_le _, rfl, rfl, OwnB.nil _ _, Below.refl _ _⟩
    case round =>
      obtain ⟨k, A, c, hk, rfl, rfl, own, bel⟩ := hrel
      by_cases hlt : k < N
      · go_wp2_with (at_builtin; (refine wpList_appB rfl (.tmp 20) (.tmp 22) rfl w.heap.size (.slice A k c) k _ (OwnB.alloc own _) rfl (some ⟨wr.heap.size, 0, none⟩) 1 1 [x] rfl rfl (reads_one wr x _ _) (by omega) (le_alloc bel.size _) w (bel.alloc bel.size _) (k + 1) (by omega) ?_; intro A4 c4 w4 own4 _ bel4))
        have HR : Hid (OwnB w4 w.heap.size (.slice A4 (k + 1) c4) (k + 1) (List.replicate (k + 1) x)) := hid (by rw [List.replicate_succ']; exact own4)
        clear own4 own bel
        go_roundw
        case rel => exact ⟨k + 1, A4, c4, by omega, by go_num, rfl, HR.out, bel4⟩
        case measure => simp [intOf]; omega
      · obtain rfl : k = N := by omega
        have hcb := own.cap_max
        have hkc := own.cap
        have y0 := own.byt
        have HS := hid (hs.out A c wr hkc hcb (hTT.out wr bel) y0)
        clear own
        go_wp2_with fail
        refine HS.out.mono ?_
        rintro er w1 ⟨A1, c1, rfl, _, y1, b1, _⟩
        have b01 := bel.trans (b1.mono bel.size)
        have y01 := (y0.below b1).more b1.size
        have HR := hid (hr.out A c w1 y01)
        go_wp2_with fail
        refine HR.out.mono ?_
        rintro er w2 ⟨A2, c2, rfl, _, y2, b2, _⟩
        have b02 := b01.trans (b2.mono b01.size)
        have y02 := (y01.below b2).more b2.size
        have hq := hid (same_eq A1 A2 _ 32 c1 c2 hd.out (by omega) w2 ((y1.below b2).more b2.size) y2)
        clear y1 y2 b1 b2
        go_wp2_with fail
        refine hq.out.mono ?_
        rintro er w3 ⟨rfl, q, rfl⟩
        have b03 := below_drewN b02 q
        have HS2 := hid (hs.out A c (w2.drewN q) hkc hcb (hTT.out _ b03) y02)
        go_wp2_with fail
        refine HS2.out.mono ?_
        rintro er w4 ⟨A4, c4, rfl, _, _, b4, _⟩
        have b04 := b03.trans (b4.mono b03.size)
        go_wp2_with fail
        refine (hz.out _ b04).mono ?_
        rintro er w5 ⟨rfl, b5⟩
        have b05 := b04.trans (b5.mono b04.size)
        go_wp2
        go_ret
        exact ⟨rfl, b05⟩

set_option maxHeartbeats 4000000 in
theorem shaStays_walk (A : Option Addr) (l : List UInt8) (c : Nat) (hc : l.length ≤ c) (hm : c ≤ 9223372036854775807) (w : World) (hT : Tab w) (hb : Byt w w.heap.size A l) :
    Calls Tryd.prog 7 #[.slice A l.length c] w fun e w' => e = .returned (.bool true) ∧ Below w.heap.size w w' := by
  have hz := hid (fun w1 (h1 : Below w.heap.size w w1) => lives_any w1 (hT.below hT.pos h1))
  have hTT := hid (fun w1 (h1 : Below w.heap.size w w1) => hT.below hT.pos h1)
  by_cases h100 : 100 < l.length
  · obtain ⟨l', hl'⟩ : ∃ l', l' = l.take 100 := ⟨_, rfl⟩
    have hb' : Byt w w.heap.size A l' := by rw [hl']; exact hb.head
    have HLn : Hid (l'.length = 100) := hid (by rw [hl', List.length_take]; omega)
    have hlc : 100 ≤ c := by omega
    have hd := hid (sha_length l')
    clear hl' hb hT

    have hb9 : Byt w w.heap.size A l' := hb'
    have HS := hid (fun A' c' W (h1 : 100 ≤ c') (h2 : c' ≤ 9223372036854775807) (hW : Tab W) (hB : Byt W W.heap.size A' l') => sum_at A' l' 100 c' HLn.out h1 h2 (by omega) W hW hB)
    have HR := hid (fun A' c' W (hB : Byt W W.heap.size A' l') => refSum_at A' l' 100 c' HLn.out (by omega) W hB)
    have HQ := hid (fun A' B' c' d' W (hA : Byt W W.heap.size A' l') (hB : Byt W W.heap.size B' l') => same_eq A' B' l' 100 c' d' HLn.out (by omega) W hA hB)
    go_enter Tryd.func7, Tryd.ntmps7
    go_wp2_with (at_builtin; (refine wpList_appB rfl (.tmp 15) (.tmp 16) rfl w.heap.size (.slice none 0 0) 0 [] (OwnB.nil _ _) rfl A 100 c l' rfl HLn.out hb'.reads (by omega) (Nat.le_refl _) w (Below.refl _ _) 100 (by omega) ?_; intro A1 c1 w1 own1 _ bel1))
    clear hb'
    go_loopw [3, 4] (fun v i wr => ∃ (k N : Nat) (A : Option Addr) (c : Nat), k ≤ 80 ∧ i = .int .i64 k ∧ v = .slice A N c ∧ Hid (N = 100 + k) ∧ OwnB wr w.heap.size v N (l' ++ List.replicate k 9) ∧ Below w.heap.size w wr) (fun _ i _ => 80 - (intOf i).toNat)
    case atStart => exact ⟨0, 100, A1, c1, Nat.zero_le _, rfl, rfl, hid rfl, by simpa using own1, bel1⟩
    case round =>
      clear own1 bel1
      obtain ⟨k, N, A3, c3, hk, rfl, rfl, HN, own, bel⟩ := hrel
      by_cases hlt : k < 80
      · have hNb : N ≤ 200 := by have := HN.out; omega
        go_wp2_with (at_builtin; (refine wpList_appB rfl (.tmp 22) (.tmp 23) rfl w.heap.size (.slice A3 N c3) N _ (OwnB.alloc own _) rfl (some ⟨wr.heap.size, 0, none⟩) 1 1 [9] rfl rfl (reads_one wr 9 _ _) (by omega) (le_alloc bel.size _) w (bel.alloc bel.size _) (N + 1) (by omega) ?_; intro A4 c4 w4 own4 _ bel4))
        have HR : Hid (OwnB w4 w.heap.size (.slice A4 (N + 1) c4) (N + 1) (l' ++ List.replicate (k + 1) 9)) := hid (by rw [List.replicate_succ', ← List.append_assoc]; exact own4)
        clear own4 own bel
        go_roundw
        case rel => exact ⟨k + 1, N + 1, A4, c4, by omega, by go_num, rfl, hid (by rw [HN.out]; omega), HR.out, bel4⟩
        case measure => simp [intOf]; omega
      · obtain rfl : k = 80 := by omega
        have hcap := own.cap
        have hcmax := own.cap_max
        have hnN : 100 + 80 ≤ N := by have := HN.out; omega
        have hNle : N ≤ 180 := by have := HN.out; omega
        have hnc : 100 ≤ c3 := by omega
        have y3 := own.byt
        have y3' : Byt wr wr.heap.size A3 l' := by
          have h := y3.head (hi := 100)
          rwa [List.take_left' HLn.out] at h
        have h9 : Hid (∀ j, j < 80 → (l' ++ List.replicate 80 (9 : UInt8))[100 + j]? = some 9) := hid (fun j hj => by
          rw [List.getElem?_append_right (by rw [HLn.out]; omega), HLn.out, show 100 + j - 100 = j by omega, List.getElem?_replicate, if_pos hj])
        have H1 := hid (HS.out A3 c3 wr hnc hcmax (hTT.out wr bel) y3')
        obtain ⟨wa, hwa⟩ : ∃ wa, wa = wr := ⟨_, rfl⟩
        subst hwa
        clear own
        go_wp2_with fail
        refine H1.out.mono ?_
        rintro er w5 ⟨A5, c5, rfl, hc5, _, b5, own5⟩
        obtain ⟨g, cap5, hv5, hg5, _⟩ := own5.form (by omega)
        injection hv5 with hA5 _ hcap5
        subst hA5 hcap5
        clear H1
        go_wp2
        go_loopw [6] (fun i wq => ∃ (k : Nat) (xs : List Value), k ≤ 32 ∧ i = .int .i64 k ∧ Hid (wq.ownsRow wa.heap.size 5 1 (.slice (some ⟨g, 0, none⟩) 32 c5) 32 xs) ∧ Below wa.heap.size wa wq) (fun i _ => 32 - (intOf i).toNat)
        case atStart => exact ⟨0, _, by omega, rfl, hid own5, b5⟩
        case round =>
          clear own5 b5
          obtain ⟨k, xs, hk, rfl, ow, bq⟩ := hrel
          by_cases hlt : k < 32
          · have hcl : wr.cell? ⟨g, k, none⟩ = wr.cell? ⟨g, k, none⟩ := rfl
            obtain ⟨u, hu⟩ : ∃ u, wr.cell? ⟨g, k, none⟩ = some u := by
              have hx := ow.out.1
              rw [ow.out.cellAt k (by omega)]
              exact ⟨xs[k], List.getElem?_eq_getElem (by omega)⟩
            have hfz := ow.out.frozenAt k
            have ow2 := hid (ow.out.stored k (.int .u8 7)).1
            have bq2 := bq.setCell (p := ⟨g, k, none⟩) hg5 (.int .u8 7)
            have hk0 : (0 : Int) ≤ (k : Int) := Int.natCast_nonneg _
            have hk1 : (k : Int) < 32 := by omega
            clear hcl
            go_wp2
            go_roundw
            case rel => exact ⟨k + 1, _, by omega, by go_num, ow2, bq2⟩
            case measure => simp [intOf]; omega
          · obtain rfl : k = 32 := by omega
            clear ow
            have bz : Below w.heap.size w wr := bel.trans (bq.mono bel.size)
            have yz : Byt wr wr.heap.size A3 (l' ++ List.replicate 80 9) := (y3.below bq).more bq.size
            have yz' : Byt wr wr.heap.size A3 l' := (y3'.below bq).more bq.size
            have yd : Byt wr wr.heap.size A l' := (hb9.below bz).more bz.size
            clear y3 y3' bq bel
            go_wp2
            go_loop [7] (fun i => ∃ k : Nat, k ≤ 80 ∧ i = .int .i64 k) (fun i => 80 - (intOf i).toNat)
            case atStart => exact ⟨0, by omega, rfl⟩
            case round =>
              obtain ⟨k, hk, rfl⟩ := hrel
              by_cases hlt : k < 80
              · obtain ⟨ad, x, rfl, _, hx, hcx⟩ := yz.get (k := 100 + k) (by rw [List.length_append, List.length_replicate, HLn.out]; omega)
                rw [h9.out k hlt] at hx
                injection hx with hx
                subst hx
                have hcx' : wr.cell? (ad.add (100 + k)) = some (.int .u8 9) := hcx
                have hk0 : (0 : Int) ≤ (100 : Int) + (k : Int) := by omega
                have hk1 : (100 : Int) + (k : Int) < (N : Int) := by omega
                clear hcx
                go_wp2
                go_round
                case rel => exact ⟨k + 1, by omega, by go_num⟩
                case measure => simp [intOf]; omega
              · obtain rfl : k = 80 := by omega
                have H2 := hid (HQ.out A3 A c3 c wr yz' yd)
                clear yz yz'
                go_wp2_with fail
                refine H2.out.mono ?_
                rintro er w6 ⟨rfl, q, rfl⟩
                have b6 := below_drewN bz q
                have yd6 : Byt (wr.drewN q) (wr.drewN q).heap.size A l' := yd
                have H3 := hid (HS.out A c (wr.drewN q) hlc (by omega) (hTT.out _ b6) yd6)
                clear H2 bz yd
                go_wp2_with fail
                refine H3.out.mono ?_
                rintro er w7 ⟨A7, c7, rfl, _, y7, b7, _⟩
                have b07 := b6.trans (b7.mono b6.size)
                have yd7 := (yd6.below b7).more b7.size
                have H4 := hid (HR.out A c w7 yd7)
                go_wp2_with fail
                refine H4.out.mono ?_
                rintro er w8 ⟨A8, c8, rfl, _, y8, b8, _⟩
                have b08 := b07.trans (b8.mono b07.size)
                have hq := hid (same_eq A7 A8 _ 32 c7 c8 hd.out (by omega) w8 ((y7.below b8).more b8.size) y8)
                clear y7 y8 b7 b8 H3 H4 yd6 yd7
                go_wp2_with fail
                refine hq.out.mono ?_
                rintro er w9 ⟨rfl, q2, rfl⟩
                have b09 := below_drewN b08 q2
                go_wp2_with fail
                refine (hz.out _ b09).mono ?_
                rintro er w10 ⟨rfl, b10⟩
                have b010 := b09.trans (b10.mono b09.size)
                go_wp2
                go_ret
                exact ⟨rfl, b010⟩
  · obtain ⟨n, hn⟩ : ∃ n, l.length = n := ⟨_, rfl⟩
    rw [hn]
    obtain ⟨l', hl'⟩ : ∃ l', l' = l := ⟨_, rfl⟩
    have hb' : Byt w w.heap.size A l' := by rw [hl']; exact hb
    have HLn : Hid (l'.length = n) := hid (by rw [hl', hn])
    have hlc : n ≤ c := by omega
    have hn100 : n ≤ 100 := by omega
    have hd := hid (sha_length l')
    clear hl' hb hT hn hc h100

    have hb9 : Byt w w.heap.size A l' := hb'
    have HS := hid (fun A' c' W (h1 : n ≤ c') (h2 : c' ≤ 9223372036854775807) (hW : Tab W) (hB : Byt W W.heap.size A' l') => sum_at A' l' n c' HLn.out h1 h2 (by omega) W hW hB)
    have HR := hid (fun A' c' W (hB : Byt W W.heap.size A' l') => refSum_at A' l' n c' HLn.out (by omega) W hB)
    have HQ := hid (fun A' B' c' d' W (hA : Byt W W.heap.size A' l') (hB : Byt W W.heap.size B' l') => same_eq A' B' l' n c' d' HLn.out (by omega) W hA hB)
    go_enter Tryd.func7, Tryd.ntmps7
    go_wp2_with (at_builtin; (refine wpList_appB rfl (.tmp 15) (.tmp 16) rfl w.heap.size (.slice none 0 0) 0 [] (OwnB.nil _ _) rfl A n c l' rfl HLn.out hb'.reads (by omega) (Nat.le_refl _) w (Below.refl _ _) n (by omega) ?_; intro A1 c1 w1 own1 _ bel1))
    clear hb'
    go_loopw [3, 4] (fun v i wr => ∃ (k N : Nat) (A : Option Addr) (c : Nat), k ≤ 80 ∧ i = .int .i64 k ∧ v = .slice A N c ∧ Hid (N = n + k) ∧ OwnB wr w.heap.size v N (l' ++ List.replicate k 9) ∧ Below w.heap.size w wr) (fun _ i _ => 80 - (intOf i).toNat)
    case atStart => exact ⟨0, n, A1, c1, Nat.zero_le _, rfl, rfl, hid rfl, by simpa using own1, bel1⟩
    case round =>
      clear own1 bel1
      obtain ⟨k, N, A3, c3, hk, rfl, rfl, HN, own, bel⟩ := hrel
      by_cases hlt : k < 80
      · have hNb : N ≤ 200 := by have := HN.out; omega
        go_wp2_with (at_builtin; (refine wpList_appB rfl (.tmp 22) (.tmp 23) rfl w.heap.size (.slice A3 N c3) N _ (OwnB.alloc own _) rfl (some ⟨wr.heap.size, 0, none⟩) 1 1 [9] rfl rfl (reads_one wr 9 _ _) (by omega) (le_alloc bel.size _) w (bel.alloc bel.size _) (N + 1) (by omega) ?_; intro A4 c4 w4 own4 _ bel4))
        have HR : Hid (OwnB w4 w.heap.size (.slice A4 (N + 1) c4) (N + 1) (l' ++ List.replicate (k + 1) 9)) := hid (by rw [List.replicate_succ', ← List.append_assoc]; exact own4)
        clear own4 own bel
        go_roundw
        case rel => exact ⟨k + 1, N + 1, A4, c4, by omega, by go_num, rfl, hid (by rw [HN.out]; omega), HR.out, bel4⟩
        case measure => simp [intOf]; omega
      · obtain rfl : k = 80 := by omega
        have hcap := own.cap
        have hcmax := own.cap_max
        have hnN : n + 80 ≤ N := by have := HN.out; omega
        have hNle : N ≤ 180 := by have := HN.out; omega
        have hnc : n ≤ c3 := by omega
        have y3 := own.byt
        have y3' : Byt wr wr.heap.size A3 l' := by
          have h := y3.head (hi := n)
          rwa [List.take_left' HLn.out] at h
        have h9 : Hid (∀ j, j < 80 → (l' ++ List.replicate 80 (9 : UInt8))[n + j]? = some 9) := hid (fun j hj => by
          rw [List.getElem?_append_right (by rw [HLn.out]; omega), HLn.out, show n + j - n = j by omega, List.getElem?_replicate, if_pos hj])
        have H1 := hid (HS.out A3 c3 wr hnc hcmax (hTT.out wr bel) y3')
        obtain ⟨wa, hwa⟩ : ∃ wa, wa = wr := ⟨_, rfl⟩
        subst hwa
        clear own
        go_wp2_with fail
        refine H1.out.mono ?_
        rintro er w5 ⟨A5, c5, rfl, hc5, _, b5, own5⟩
        obtain ⟨g, cap5, hv5, hg5, _⟩ := own5.form (by omega)
        injection hv5 with hA5 _ hcap5
        subst hA5 hcap5
        clear H1
        go_wp2
        go_loopw [6] (fun i wq => ∃ (k : Nat) (xs : List Value), k ≤ 32 ∧ i = .int .i64 k ∧ Hid (wq.ownsRow wa.heap.size 5 1 (.slice (some ⟨g, 0, none⟩) 32 c5) 32 xs) ∧ Below wa.heap.size wa wq) (fun i _ => 32 - (intOf i).toNat)
        case atStart => exact ⟨0, _, by omega, rfl, hid own5, b5⟩
        case round =>
          clear own5 b5
          obtain ⟨k, xs, hk, rfl, ow, bq⟩ := hrel
          by_cases hlt : k < 32
          · have hcl : wr.cell? ⟨g, k, none⟩ = wr.cell? ⟨g, k, none⟩ := rfl
            obtain ⟨u, hu⟩ : ∃ u, wr.cell? ⟨g, k, none⟩ = some u := by
              have hx := ow.out.1
              rw [ow.out.cellAt k (by omega)]
              exact ⟨xs[k], List.getElem?_eq_getElem (by omega)⟩
            have hfz := ow.out.frozenAt k
            have ow2 := hid (ow.out.stored k (.int .u8 7)).1
            have bq2 := bq.setCell (p := ⟨g, k, none⟩) hg5 (.int .u8 7)
            have hk0 : (0 : Int) ≤ (k : Int) := Int.natCast_nonneg _
            have hk1 : (k : Int) < 32 := by omega
            clear hcl
            go_wp2
            go_roundw
            case rel => exact ⟨k + 1, _, by omega, by go_num, ow2, bq2⟩
            case measure => simp [intOf]; omega
          · obtain rfl : k = 32 := by omega
            clear ow
            have bz : Below w.heap.size w wr := bel.trans (bq.mono bel.size)
            have yz : Byt wr wr.heap.size A3 (l' ++ List.replicate 80 9) := (y3.below bq).more bq.size
            have yz' : Byt wr wr.heap.size A3 l' := (y3'.below bq).more bq.size
            have yd : Byt wr wr.heap.size A l' := (hb9.below bz).more bz.size
            clear y3 y3' bq bel
            go_wp2
            go_loop [7] (fun i => ∃ k : Nat, k ≤ 80 ∧ i = .int .i64 k) (fun i => 80 - (intOf i).toNat)
            case atStart => exact ⟨0, by omega, rfl⟩
            case round =>
              obtain ⟨k, hk, rfl⟩ := hrel
              by_cases hlt : k < 80
              · obtain ⟨ad, x, rfl, _, hx, hcx⟩ := yz.get (k := n + k) (by rw [List.length_append, List.length_replicate, HLn.out]; omega)
                rw [h9.out k hlt] at hx
                injection hx with hx
                subst hx
                have hcx' : wr.cell? (ad.add (n + k)) = some (.int .u8 9) := hcx
                have hk0 : (0 : Int) ≤ (n : Int) + (k : Int) := by omega
                have hk1 : (n : Int) + (k : Int) < (N : Int) := by omega
                clear hcx
                go_wp2
                go_round
                case rel => exact ⟨k + 1, by omega, by go_num⟩
                case measure => simp [intOf]; omega
              · obtain rfl : k = 80 := by omega
                have H2 := hid (HQ.out A3 A c3 c wr yz' yd)
                clear yz yz'
                go_wp2_with fail
                refine H2.out.mono ?_
                rintro er w6 ⟨rfl, q, rfl⟩
                have b6 := below_drewN bz q
                have yd6 : Byt (wr.drewN q) (wr.drewN q).heap.size A l' := yd
                have H3 := hid (HS.out A c (wr.drewN q) hlc (by omega) (hTT.out _ b6) yd6)
                clear H2 bz yd
                go_wp2_with fail
                refine H3.out.mono ?_
                rintro er w7 ⟨A7, c7, rfl, _, y7, b7, _⟩
                have b07 := b6.trans (b7.mono b6.size)
                have yd7 := (yd6.below b7).more b7.size
                have H4 := hid (HR.out A c w7 yd7)
                go_wp2_with fail
                refine H4.out.mono ?_
                rintro er w8 ⟨A8, c8, rfl, _, y8, b8, _⟩
                have b08 := b07.trans (b8.mono b07.size)
                have hq := hid (same_eq A7 A8 _ 32 c7 c8 hd.out (by omega) w8 ((y7.below b8).more b8.size) y8)
                clear y7 y8 b7 b8 H3 H4 yd6 yd7
                go_wp2_with fail
                refine hq.out.mono ?_
                rintro er w9 ⟨rfl, q2, rfl⟩
                have b09 := below_drewN b08 q2
                go_wp2_with fail
                refine (hz.out _ b09).mono ?_
                rintro er w10 ⟨rfl, b10⟩
                have b010 := b09.trans (b10.mono b09.size)
                go_wp2
                go_ret
                exact ⟨rfl, b010⟩
end Go.Proofs.YtdmglanepjhdoaaDoor.Sh
