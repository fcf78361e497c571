/-
  The walk of RevsetOwns (the contract of lives is its premise). Written by mk_relawe.py.
-/
import Derived.Test.YtifoppnpgljphaaReWr
namespace Go.Proofs.Ytifoppnpgljphaa.Sh
open Go Go.RowKit

set_option linter.unusedSimpArgs false
set_option linter.unusedVariables false
set_option maxHeartbeats 64000000 in
set_option maxRecDepth 100000 in
theorem revsetOwns_walk (hlv : Lives11) (A : Option Addr) (xs : List Deed) (n c : Nat) (hn : xs.length = n) (hc : n ≤ c) (hm : c ≤ 9223372036854775807) (MA : Option Addr) (ms : List Deed) (mn mc : Nat) (hmn : ms.length = mn) (hmc : mn ≤ mc) (hmm : mc ≤ 9223372036854775807) (w : World) (h : Deeds w w.heap.size A xs) (hme : Deeds w w.heap.size MA ms) :
    Calls Try.prog 7 #[.slice A n c, .slice MA mn mc] w fun e w' => e = .returned (.bool true) ∧ Below w.heap.size w w' := by
  have HLV := hid hlv
  have HD := hid (fun W (hW : Below w.heap.size w W) => h.below (Nat.le_refl _) hW)
  have HME := hid (fun W (hW : Below w.heap.size w W) => hme.below (Nat.le_refl _) hW)
  have HN := hid hn
  have HMN := hid hmn
  clear hlv h hn hme hmn
  go_enter Try.func7, Try.ntmps7
  go_wp2_with fail
  refine (new11_any w).mono ?_
  rintro er w1 ⟨gs, rfl, s1, s2, b1, p1⟩
  have HS1 := hid p1
  have HB1 := hid b1
  clear b1 p1
  go_wp2_with fail
  refine (refNew11_any w1).mono ?_
  rintro er w2 ⟨g, gL, rfl, r1, r2, r3, r4, b2, p2⟩
  have HBO : Hid (Both w2 w.heap.size gs g gL S0) := hid (both_new HS1.out s2 b2 r1 r2 p2 ⟨r3, r4⟩ HB1.out.size)
  have HB2 := hid (HB1.out.trans (b2.mono HB1.out.size))
  have hgs : w.heap.size ≤ gs := s1
  have hgL : w.heap.size ≤ gL := by have := HB1.out.size; omega
  clear b2 p2 r1 r2 r3 r4 s1 s2 HS1 HB1
  go_wp2_with fail
  go_loopw [7] (fun i wr => ∃ k : Nat, i = .int .i64 (k : Int) ∧ k ≤ n ∧ k ≤ 30 ∧ Hid (Both wr w.heap.size gs g gL (doneS S0 (xs.take k))) ∧ Hid (Below w.heap.size w wr)) (fun i _ => 30 - (intOf i).toNat)
  case atStart => exact ⟨0, rfl, Nat.zero_le _, Nat.zero_le _, HBO, HB2⟩
  case round =>
    clear HBO HB2
    obtain ⟨wj, hwj⟩ : ∃ x, x = wr := ⟨_, rfl⟩
    subst hwj
    obtain ⟨k, rfl, hk, hk30, HBO, HB⟩ := hrel
    have hk0 : (0 : Int) ≤ (k : Int) := Int.natCast_nonneg _
    by_cases hlt : k < n ∧ k < 30
    · have hk1 : (k : Int) < (n : Int) := by omega
      have hk2 : (k : Int) < 30 := by omega
      obtain ⟨x, hx⟩ : ∃ x, xs[k]? = some x := ⟨_, List.getElem?_eq_getElem (by rw [HN.out]; exact hlt.1)⟩
      have HDN : Hid (doneS S0 (xs.take (k + 1)) = deedS (doneS S0 (xs.take k)) (cutD x)) := hid (by rw [take_snoc_of hx, doneS_snoc])
      obtain ⟨S, hS⟩ : ∃ S, doneS S0 (xs.take k) = S := ⟨_, rfl⟩
      rw [hS] at HBO HDN
      have hls := HBO.out.lt
      have HLS : Hid (gs < wj.heap.size ∧ g < wj.heap.size ∧ gL < wj.heap.size) := hid hls
      obtain ⟨ad, aj, dh, hA, hab, haj, hbj, hde, c0, c1, c2, c3, c4⟩ := (HD.out wj HB.out).at hx
      subst hA
      have HC := hid (cut_any hde)
      obtain ⟨kd, d, q, kA, kn, kc, mA', mn', mc'⟩ := dh
      simp only at c0 c1 c2 c3 c4 HC
      clear hde hab hbj hx hS hls
      go_wp2_with fail
      refine HC.out.mono ?_
      rintro er w4 ⟨dh', rfl, a4, b4⟩
      obtain ⟨ke, de, qe, kAe, kne, kce, mAe, mne, mce⟩ := dh'
      simp only
      obtain ⟨w5, hw5⟩ : ∃ y, y = w4.alloc (.cells #[.int .i64 ke, .int .i64 de, .int .i64 qe, .slice kAe kne kce, .slice mAe mne mce] 33) := ⟨_, rfl⟩
      have HX5 : Hid (DhAt w5 w4.heap.size ⟨ke, de, qe, kAe, kne, kce, mAe, mne, mce⟩) := hid (by rw [hw5]; exact DhAt.new w4 ⟨ke, de, qe, kAe, kne, kce, mAe, mne, mce⟩)
      have HB45 : Hid (Below w4.heap.size w4 w5) := hid (by rw [hw5]; exact (Below.refl _ _).alloc (Nat.le_refl _) _)
      have HB5 : Hid (Below wj.heap.size wj w5) := hid (b4.trans (HB45.out.mono b4.size))
      have HA5 := hid (a4.grew (Grew.of_below (X := fun _ => False) HB45.out) (fun _ _ h => h))
      have HWW := hid hw5
      have hml := HA5.out.ml
      have hmle := cutL_len x.more
      simp only at hml
      have hmn' : mne ≤ 20 := by rw [← hml]; exact hmle
      have HML := hid hml
      obtain ⟨b8, hb8⟩ : ∃ y, y = w4.heap.size := ⟨_, rfl⟩
      have HB8 := hid hb8
      rw [← hb8] at HX5
      have hb8' : b8 < w5.heap.size := HX5.out.lt
      clear hml hmle hw5 a4 b4 c0 c1 c2 c3 c4
      go_upto_region 9 with fail
      rw [← HWW.out]
      rw [← hb8]
      clear hb8
      go_wp2_with fail
      go_loopw [9, 10] (fun v i wr => ∃ (A1 : Option Addr) (c1 j : Nat), v = .slice A1 j c1 ∧ i = .int .i64 (j : Int) ∧ j ≤ mne ∧ Hid (OwnLL wr w5.heap.size (.slice A1 j c1) ((cutD x).more.take j)) ∧ Hid (Below w5.heap.size w5 wr)) (fun _ i _ => mne - (intOf i).toNat)
      case atStart => exact ⟨none, 0, 0, rfl, rfl, Nat.zero_le _, hid (OwnLL.nil _ _), hid (Below.refl _ _)⟩
      case round =>
        obtain ⟨wi, hwi⟩ : ∃ y, y = wr := ⟨_, rfl⟩
        subst hwi
        obtain ⟨A1, c1, j, rfl, rfl, hj, HOL, HBI⟩ := hrel
        have hj0 : (0 : Int) ≤ (j : Int) := Int.natCast_nonneg _
        have HXI := hid (HX5.out.below HBI.out)
        obtain ⟨x0, x1, x2, x3, x4⟩ := HXI.out.all
        simp only at x0 x1 x2 x3 x4
        by_cases hltj : j < mne
        · have hj1 : (j : Int) < (mne : Int) := by omega
          obtain ⟨l, hl⟩ : ∃ l, (cutD x).more[j]? = some l := ⟨_, List.getElem?_eq_getElem (by rw [HML.out]; exact hltj)⟩
          have hl40 : l.length ≤ 40 := cutL_mem l (List.mem_of_getElem? hl)
          have hme := HA5.out.me
          simp only at hme
          obtain ⟨ad2, A', n2, c2, hA2, _, hbl, hcw, hll, _, _, hel⟩ := (hme.below HBI.out).row hl
          subst hA2
          have HLL := hid hll
          have HRD := hid hel.els.reads
          have HTK : Hid ((cutD x).more.take (j + 1) = (cutD x).more.take j ++ [l]) := hid (take_snoc_of hl)
          have HLJ : Hid (((cutD x).more.take j).length = j) := hid (by rw [List.length_take, HML.out]; omega)
          clear hl hll hel hbl hme
          go_wp2_with (first
            | (at_builtin; refine wpList_appL (E := encN) rfl slN (.tmp 55) (.tmp 60) rfl (B := wi.heap.size) (v := .slice none 0 0) (l := []) (Own.nil _ _ _) rfl (A := A') (m := n2) (c := c2) l rfl HLL.out HRD.out (by have := HLL.out; simp; omega) (by omega) (Nat.le_refl _) ?_; intro AT cT wT oT gT eT; simp only [List.length_nil, Nat.zero_add, List.nil_append] at oT ⊢; have HT := hid oT; have BT := hid ((Below.refl wi.heap.size wi).grown gT (Nat.le_refl _) (fun g e => by cases e)); clear oT gT eT; have HBA := hid ((HBI.out.trans (BT.out.mono HBI.out.size)).alloc (by have := HBI.out.size; have := BT.out.size; omega) (.cells #[.slice AT n2 cT] 30)); have HPA : Hid (Own (E := encN) (wT.alloc (.cells #[.slice AT n2 cT] 30)) w5.heap.size 3 (Hd.val ⟨AT, n2, cT⟩) l) := hid ((HT.out.lower HBI.out.size).alloc _); have HLW : Hid (OwnLL (wT.alloc (.cells #[.slice AT n2 cT] 30)) w5.heap.size (.slice A1 j c1) ((cutD x).more.take j)) := hid ((HOL.out.below BT.out).below ((Below.refl _ _).alloc (Nat.le_refl _) _)); obtain ⟨hs, hO1, hL1, hE1⟩ := HLW.out; have HO1 := hid hO1; have HL1 : Hid (hs.length = j) := hid (hL1.trans HLJ.out); have HRD2 := hid (reads_new wT #[.slice AT n2 cT] 30 (0, 0)); have hbs : w5.heap.size ≤ (wT.alloc (.cells #[.slice AT n2 cT] 30)).heap.size := HBA.out.size; have hfl : hs.length ≤ 1000000000000 := (by rw [HL1.out]; omega); have HFR : Hid (∀ (A9 : Option Addr) (c9 : Nat) (w9 : World), Own (E := encH) w9 w5.heap.size 30 (.slice A9 (j + 1) c9) (hs ++ [⟨AT, n2, cT⟩]) → (wT.alloc (.cells #[.slice AT n2 cT] 30)).grownBy w9 (Value.slice A1 j c1).ownBlock → OwnLL w9 w5.heap.size (.slice A9 (j + 1) c9) ((cutD x).more.take (j + 1)) ∧ Below w5.heap.size w5 w9) := hid (fun A9 c9 w9 o9 g9 => ⟨(by rw [HTK.out]; exact OwnLL.add hO1 hL1 hE1 HPA.out HLL.out g9 o9), HBA.out.grown g9 HBA.out.size (fun b e => (hO1.lt b e).1)⟩); clear hO1 hL1 hE1)
            | (at_builtin; refine wpList_app1 (E := encH) rfl slH (.tmp 62) (.tmp 64) rfl (B := w5.heap.size) (v := .slice A1 j c1) (l := hs) HO1.out rfl (ad := ⟨wT.heap.size, 0, none⟩) (c := 1) ⟨AT, n2, cT⟩ rfl HRD2.out hfl (by omega) hbs ?_; intro A9 c9 w9 ho9 hg9 he9; rw [HL1.out] at ho9; obtain ⟨k1, k2⟩ := HFR.out A9 c9 w9 ho9 hg9; have K1 := hid k1; have K2 := hid k2; clear ho9 hg9 he9 k1 k2; rw [HL1.out])
            | go_in)
          go_roundw
          case rel => exact ⟨A9, c9, j + 1, rfl, by go_num, by omega, K1, K2⟩
          case measure => simp [intOf]; omega
        · obtain rfl : j = mne := by omega
          have HTM : Hid ((cutD x).more.take j = (cutD x).more) := hid (List.take_of_length_le (by rw [HML.out]; exact Nat.le_refl _))
          rw [HTM.out] at HOL
          obtain ⟨w6, hw6⟩ : ∃ y, y = wi.alloc (.cells #[.int .i64 ke, .int .i64 de, .int .i64 qe, .slice kAe kne kce, .slice mAe j mce] 33) := ⟨_, rfl⟩
          have HX6 : Hid (DhAt w6 wi.heap.size ⟨ke, de, qe, kAe, kne, kce, mAe, j, mce⟩) := hid (by rw [hw6]; exact DhAt.new wi ⟨ke, de, qe, kAe, kne, kce, mAe, j, mce⟩)
          have hb6 : Below wi.heap.size wi w6 := by rw [hw6]; exact (Below.refl _ _).alloc (Nat.le_refl _) _
          obtain ⟨w7, hw7⟩ : ∃ y, y = w6.setCell ⟨wi.heap.size, 4, none⟩ (.slice A1 j c1) := ⟨_, rfl⟩
          have HX7 : Hid (DhAt w7 wi.heap.size ⟨ke, de, qe, kAe, kne, kce, A1, j, c1⟩) := hid (by rw [hw7]; exact HX6.out.setM A1 j c1)
          have HI7 : Hid (Below wi.heap.size wi w7) := hid (by rw [hw7]; exact hb6.setCell (p := ⟨wi.heap.size, 4, none⟩) (Nat.le_refl _) _)
          have HB7 : Hid (Below wj.heap.size wj w7) := hid ((HB5.out.trans (HBI.out.mono HB5.out.size)).trans (HI7.out.mono (by have := HB5.out.size; have := HBI.out.size; omega)))
          have HO7 := hid (HOL.out.below HI7.out)
          have hcap : j ≤ c1 ∧ c1 ≤ 9223372036854775807 := by
            obtain ⟨hs, h1, h2, -⟩ := HOL.out
            obtain ⟨A', c', e', q1, q2, -⟩ := h1.els
            simp only [Value.slice.injEq] at e'
            have := HML.out
            omega
          have HA7 : Hid (DeedAt w7 (fun b => b < w.heap.size ∨ wj.heap.size ≤ b) ⟨ke, de, qe, kAe, kne, kce, A1, j, c1⟩ (cutD x)) := hid (by
            have h := HA5.out
            exact ⟨h.kind, h.d, h.q, h.kl, h.kc, h.km, h.ke.below (HBI.out.trans (HI7.out.mono HBI.out.size)), HML.out, hcap.1, hcap.2, HO7.out.llsQ.imp (fun b hb _ => .inr (by have := HB5.out.size; omega)), h.mw⟩)
          obtain ⟨P, R, hbx, hpr⟩ := HBO.out
          have HPR := hid hpr
          have HDO := hid (does_any (hbx.below HB7.out) (fun b hb => Nat.lt_of_lt_of_le (hpr b hb).2 HB7.out.size) HA7.out (fun b hq hl => by
            have h1 := HLS.out
            refine ⟨fun hp => ?_, ?_, ?_⟩
            · have := hpr b (.inl hp); omega
            · omega
            · omega))
          simp only at HDO
          rw [cutD_cutD] at HDO
          obtain ⟨hs, hwr⟩ := HOL.out.wr HML.out
          have HWI := hid hwr
          have HW6 := hid hw6
          have HW7 := hid hw7
          have f4 := HX6.out.f 4
          obtain ⟨y0, y1, y2, y3, y4⟩ := HX6.out.all
          simp only at y0 y1 y2 y3 y4
          obtain ⟨v0, v1, v2, v3, v4⟩ := HX7.out.all
          simp only at v0 v1 v2 v3 v4
          clear hw6 hw7 hb6 hwr HOL HBO hbx hpr
          go_upto_region 17 with fail
          rw [← HW6.out]
          go_upto_region 18 with fail
          rw [← HW7.out]
          go_wp2_with fail
          refine HDO.out.mono ?_
          rintro er w8 ⟨rfl, ⟨P8, R8, o8, q8⟩, g8⟩
          have HBO8 := hid o8
          have HQ8P := hid q8
          have hsz8 := g8.size
          have HB8' : Hid (Below w.heap.size w w8) := hid (Grew.then_below (HB.out.trans (HB7.out.mono HB.out.size)) g8 (by have := HB.out.size; have := HB7.out.size; omega) (fun b hb => by
            rcases hb with e | e | e
            · omega
            · omega
            · exact (HPR.out b (.inl e)).1))
          have HWR : Hid (WrLL w8 w5.heap.size wi.heap.size A1 j hs) := hid ((HWI.out.grew (Grew.of_below (X := fun _ => False) HI7.out) (fun _ _ _ h => h)).grew g8 (fun b h1 h2 h3 => by have := HLS.out; have := HB5.out.size; exact h3.elim (fun e => by omega) (fun h3 => h3.elim (fun e => by omega) (fun e => by have := HPR.out b (.inl e); omega))))
          clear o8 q8 g8 y0 y1 y2 y3 y4 v0 v1 v2 v3 v4 x0 x1 x2 x3 x4 f4 HWI HDO
          obtain ⟨mne, hmj⟩ : ∃ y, y = j := ⟨_, rfl⟩
          subst hmj
          go_wp2_with fail
          go_loopw [14] (fun i wr => ∃ j : Nat, i = .int .i64 (j : Int) ∧ j ≤ mne ∧ Hid (WrLL wr w5.heap.size wi.heap.size A1 mne hs) ∧ Hid (Grew w8 wr (fun b => w5.heap.size ≤ b ∧ b < wi.heap.size))) (fun i _ => mne - (intOf i).toNat)
          case atStart => exact ⟨0, rfl, Nat.zero_le _, HWR, hid (Grew.refl _ _)⟩
          case round =>
            clear HWR
            obtain ⟨wv, hwv⟩ : ∃ y, y = wr := ⟨_, rfl⟩
            subst hwv
            obtain ⟨j, rfl, hj, HWR, HWE⟩ := hrel
            have hj0 : (0 : Int) ≤ (j : Int) := Int.natCast_nonneg _
            by_cases hltj : j < mne
            · have hj1 : (j : Int) < (mne : Int) := by omega
              obtain ⟨ad3, ⟨hA3, hn3, hc3⟩, hAA, hhx, -, hq1, hq2, -⟩ := HWR.out.at hltj
              simp only at hq1 hq2
              subst hAA
              have HHX := hid hhx
              clear hhx
              go_wp2_with fail
              go_loopw [15] (fun i wr => ∃ t : Nat, i = .int .i64 (t : Int) ∧ t ≤ hn3 ∧ Hid (WrLL wr w5.heap.size wi.heap.size (some ad3) mne hs) ∧ Hid (Grew w8 wr (fun b => w5.heap.size ≤ b ∧ b < wi.heap.size))) (fun i _ => hn3 - (intOf i).toNat)
              case atStart => exact ⟨0, rfl, Nat.zero_le _, HWR, HWE⟩
              case round =>
                clear HWR HWE
                obtain ⟨wu, hwu⟩ : ∃ y, y = wr := ⟨_, rfl⟩
                subst hwu
                obtain ⟨t, rfl, ht, HWR, HWE⟩ := hrel
                have ht0 : (0 : Int) ≤ (t : Int) := Int.natCast_nonneg _
                obtain ⟨ad4, x4, hAB, hhy, hcy, -, -, hop⟩ := HWR.out.at hltj
                obtain rfl := Option.some.inj hAB
                obtain rfl := Option.some.inj (HHX.out.symm.trans hhy)
                simp only at hcy hop
                have HHY := hid hhy
                clear hhy
                by_cases hltt : t < hn3
                · have ht1 : (t : Int) < (hn3 : Int) := by omega
                  obtain ⟨g3, rfl, hg1, hg2, cs, hg3, hg4⟩ := hop (by omega)
                  have fz := frozen_of_row wu g3 t _ _ hg3
                  obtain ⟨cv, hcv⟩ : ∃ v, wu.cell? ⟨g3, t, none⟩ = some v := ⟨cs[t], by rw [cell_of_row _ _ t _ _ (0, 0) hg3]; simp⟩
                  have HST := hid (HWR.out.set HHY.out rfl (by show 0 < hn3; omega) t (.int .i64 77))
                  clear hg3 hg4 hg1 hg2 hop
                  go_wp2_with fail
                  go_roundw
                  case rel => exact ⟨t + 1, by go_num, by omega, hid HST.out.1, hid (HWE.out.trans HST.out.2)⟩
                  case measure => simp [intOf]; omega
                · obtain rfl : t = hn3 := by omega
                  clear hop
                  go_wp2_with fail
                  go_roundw
                  case rel => exact ⟨j + 1, by go_num, by omega, HWR, HWE⟩
                  case measure => simp [intOf]; omega
            · obtain rfl : j = mne := by omega
              have HBO9 : Hid (Both wv w.heap.size gs g gL (deedS S (cutD x))) := hid ⟨P8, R8, HBO8.out.grew HWE.out (fun b hb => by
                have h1 := HLS.out
                have h2 := HB5.out.size
                have h3 := HI7.out.size
                refine ⟨fun hp => ?_, fun hp => ?_, by omega, by omega, by omega⟩
                · rcases HQ8P.out b (.inl hp) with ⟨q, _⟩ | ⟨q, _⟩
                  · have := HPR.out b q; omega
                  · omega
                · rcases HQ8P.out b (.inr hp) with ⟨q, _⟩ | ⟨q, _⟩
                  · have := HPR.out b q; omega
                  · omega), fun b hb => by
                have h1 := HWE.out.size
                have h2 := HB.out.size
                have h3 := HB7.out.size
                rcases HQ8P.out b hb with ⟨q, q2⟩ | ⟨q, q2⟩
                · have := HPR.out b q; omega
                · omega⟩
              have HB9 : Hid (Below w.heap.size w wv) := hid (Grew.then_below HB8'.out HWE.out (by have := HB8'.out.size; omega) (fun b hb => by have := HB.out.size; have := HB5.out.size; omega))
              clear HWR HWE HBO8 HB8'
              go_wp2_with fail
              go_loopw [16] (fun i wr => ∃ j : Nat, i = .int .i64 ((j : Int) + 1) ∧ j ≤ 16 ∧ Hid (Both wr w.heap.size gs g gL (deedS S (cutD x))) ∧ Hid (Below w.heap.size w wr)) (fun i _ => 17 - (intOf i).toNat)
              case atStart => exact ⟨0, rfl, Nat.zero_le _, HBO9, HB9⟩
              case round =>
                clear HBO9 HB9
                obtain ⟨wv, hwv⟩ : ∃ y, y = wr := ⟨_, rfl⟩
                subst hwv
                obtain ⟨j, rfl, hj, HBO9, HB9⟩ := hrel
                have hj0 : (0 : Int) ≤ (j : Int) := Int.natCast_nonneg _
                by_cases hltj : j < 16
                · have hj1 : (j : Int) + 1 ≤ 16 := by omega
                  have hrl := (rowS_ok HBO9.out.s.ok ((j : Int) + 1)).len
                  go_wp2_with fail
                  refine (row11_any HBO9.out.s ((j : Int) + 1)).mono ?_
                  rintro er y1 ⟨A3, n3, c3, rfl, q1, q2, f3, k3⟩
                  have hn32 : n3 ≤ 32 := by have := f3.len; omega
                  have HOP := hid f3.opy
                  have HK3 := hid k3
                  clear f3 k3
                  go_wp2_with fail
                  go_loopw [18] (fun i wr => ∃ t : Nat, i = .int .i64 (t : Int) ∧ t ≤ n3 ∧ Hid (OpY wr wv.heap.size y1.heap.size A3 n3) ∧ Hid (Below wv.heap.size wv wr)) (fun i _ => n3 - (intOf i).toNat)
                  case atStart => exact ⟨0, rfl, Nat.zero_le _, HOP, HK3⟩
                  case round =>
                    clear HOP HK3
                    obtain ⟨wu, hwu⟩ : ∃ y, y = wr := ⟨_, rfl⟩
                    subst hwu
                    obtain ⟨t, rfl, ht, HOP, HK3⟩ := hrel
                    have ht0 : (0 : Int) ≤ (t : Int) := Int.natCast_nonneg _
                    by_cases hltt : t < n3
                    · have ht1 : (t : Int) < (n3 : Int) := by omega
                      obtain ⟨g3, rfl, hg1, hg2, cs, hg3, hg4⟩ := HOP.out (by omega)
                      have fz := frozen_of_row wu g3 t _ _ hg3
                      obtain ⟨cv, hcv⟩ : ∃ v, wu.cell? ⟨g3, t, none⟩ = some v := ⟨cs[t], by rw [cell_of_row _ _ t _ _ (0, 0) hg3]; simp⟩
                      have HST := hid (HOP.out.set g3 t (.int .i64 77))
                      have HKT := hid (HK3.out.setCell (p := ⟨g3, t, none⟩) hg1 (.int .i64 77))
                      clear hg3 hg4 hg1 hg2
                      go_wp2_with fail
                      go_roundw
                      case rel => exact ⟨t + 1, by go_num, by omega, HST, HKT⟩
                      case measure => simp [intOf]; omega
                    · obtain rfl : t = n3 := by omega
                      go_wp2_with fail
                      go_roundw
                      case rel => exact ⟨j + 1, by go_num, by omega, hid (HBO9.out.below HK3.out), hid (HB9.out.trans (HK3.out.mono HB9.out.size))⟩
                      case measure => simp [intOf]; omega
                · obtain rfl : j = 16 := by omega
                  go_wp2_with fail
                  refine (delta11_any HBO9.out.s none [] 0 0 rfl (by omega) Els.nil).mono ?_
                  rintro er y1 ⟨Ad, md, cd, rfl, qd1, qd2, fd, kd1⟩
                  have hmd : md ≤ 16 := by rw [← fd.len]; exact deltaS_len _ _
                  obtain ⟨hs, hwr⟩ := fd.wr
                  have HWR := hid hwr
                  have HKD := hid kd1
                  clear fd hwr kd1
                  obtain ⟨wd, hwd⟩ : ∃ y, y = wv := ⟨_, rfl⟩
                  subst hwd
                  go_wp2_with fail
                  go_loopw [20] (fun i wr => ∃ j : Nat, i = .int .i64 (j : Int) ∧ j ≤ md ∧ Hid (WrLL wr wd.heap.size y1.heap.size Ad md hs) ∧ Hid (Grew y1 wr (fun b => wd.heap.size ≤ b ∧ b < y1.heap.size))) (fun i _ => md - (intOf i).toNat)
                  case atStart => exact ⟨0, rfl, Nat.zero_le _, HWR, hid (Grew.refl _ _)⟩
                  case round =>
                    clear HWR
                    obtain ⟨wv, hwv⟩ : ∃ y, y = wr := ⟨_, rfl⟩
                    subst hwv
                    obtain ⟨j, rfl, hj, HWR, HWE⟩ := hrel
                    have hj0 : (0 : Int) ≤ (j : Int) := Int.natCast_nonneg _
                    by_cases hltj : j < md
                    · have hj1 : (j : Int) < (md : Int) := by omega
                      obtain ⟨ad3, ⟨hA3, hn3, hc3⟩, hAA, hhx, -, hq1, hq2, -⟩ := HWR.out.at hltj
                      simp only at hq1 hq2
                      subst hAA
                      have HHX := hid hhx
                      clear hhx
                      go_wp2_with fail
                      go_loopw [21] (fun i wr => ∃ t : Nat, i = .int .i64 (t : Int) ∧ t ≤ hn3 ∧ Hid (WrLL wr wd.heap.size y1.heap.size (some ad3) md hs) ∧ Hid (Grew y1 wr (fun b => wd.heap.size ≤ b ∧ b < y1.heap.size))) (fun i _ => hn3 - (intOf i).toNat)
                      case atStart => exact ⟨0, rfl, Nat.zero_le _, HWR, HWE⟩
                      case round =>
                        clear HWR HWE
                        obtain ⟨wu, hwu⟩ : ∃ y, y = wr := ⟨_, rfl⟩
                        subst hwu
                        obtain ⟨t, rfl, ht, HWR, HWE⟩ := hrel
                        have ht0 : (0 : Int) ≤ (t : Int) := Int.natCast_nonneg _
                        obtain ⟨ad4, x4, hAB, hhy, hcy, -, -, hop⟩ := HWR.out.at hltj
                        obtain rfl := Option.some.inj hAB
                        obtain rfl := Option.some.inj (HHX.out.symm.trans hhy)
                        simp only at hcy hop
                        have HHY := hid hhy
                        clear hhy
                        by_cases hltt : t < hn3
                        · have ht1 : (t : Int) < (hn3 : Int) := by omega
                          obtain ⟨g3, rfl, hg1, hg2, cs, hg3, hg4⟩ := hop (by omega)
                          have fz := frozen_of_row wu g3 t _ _ hg3
                          obtain ⟨cv, hcv⟩ : ∃ v, wu.cell? ⟨g3, t, none⟩ = some v := ⟨cs[t], by rw [cell_of_row _ _ t _ _ (0, 0) hg3]; simp⟩
                          have HST := hid (HWR.out.set HHY.out rfl (by show 0 < hn3; omega) t (.int .i64 77))
                          clear hg3 hg4 hg1 hg2 hop
                          go_wp2_with fail
                          go_roundw
                          case rel => exact ⟨t + 1, by go_num, by omega, hid HST.out.1, hid (HWE.out.trans HST.out.2)⟩
                          case measure => simp [intOf]; omega
                        · obtain rfl : t = hn3 := by omega
                          clear hop
                          go_wp2_with fail
                          go_roundw
                          case rel => exact ⟨j + 1, by go_num, by omega, HWR, HWE⟩
                          case measure => simp [intOf]; omega
                    · obtain rfl : j = md := by omega
                      have HKE : Hid (Below wd.heap.size wd wv) := hid (Grew.then_below HKD.out HWE.out HKD.out.size (fun b hb => hb.1))
                      go_wp2_with fail
                      go_roundw
                      case rel => exact ⟨k + 1, by go_num, by omega, by omega, hid (by rw [HDN.out]; exact HBO9.out.below HKE.out), hid (HB9.out.trans (HKE.out.mono HB9.out.size))⟩
                      case measure => simp [intOf]; omega
    · have hkm : k = min n 30 := by omega
      obtain ⟨S, hS⟩ : ∃ S, doneS S0 (xs.take k) = S := ⟨_, rfl⟩
      rw [hS] at HBO
      have HSK := hid hS
      have hls := HBO.out.lt
      clear hS
      by_cases hk1 : (k : Int) < (n : Int)
      all_goals
        try have hk2 : ¬ (k : Int) < 30 := (by omega)
        go_wp2_with fail
        refine (copy11_any HBO.out.s).mono ?_
        rintro er w1 ⟨gc, rfl, s1, l1, b1, p1⟩
        have HPC1 := hid (p1 (fun b => wj.heap.size ≤ b ∧ b ≠ gc) (fun h => h.2 rfl) (fun b hb hn => ⟨hb, hn⟩))
        have HJ1 := hid b1
        clear b1 p1
        go_wp2_with fail
        refine (new11_any w1).mono ?_
        rintro er w2 ⟨gt, rfl, s2, l2, b2, p2⟩
        have HPC : Hid (SetP w2 (fun b => wj.heap.size ≤ b ∧ b ≠ gc ∧ b ≠ gt) gc S) := hid (HPC1.out.kept (fun b _ hl => b2.block b hl) b2.size (fun b hp hb => ⟨hp.1, hp.2, by omega⟩) (fun h => h.2.1 rfl))
        have HPT : Hid (SetP w2 (fun _ => False) gt S0) := hid (p2 (fun _ => False) id)
        have HJ2 := hid (HJ1.out.trans (b2.mono HJ1.out.size))
        have hgc : wj.heap.size ≤ gc ∧ gc < w1.heap.size ∧ w1.heap.size ≤ gt ∧ gt < w2.heap.size := ⟨s1, l1, s2, l2⟩
        clear b2 p2 HPC1 HJ1 s1 l1 s2 l2
        go_wp2_with fail
        go_loopw [24] (fun i wr => ∃ (k2 : Nat) (SC : Nat → List Int), i = .int .i64 (k2 : Int) ∧ k2 ≤ mn ∧ k2 ≤ 30 ∧ w2.heap.size ≤ wr.heap.size ∧ Hid (SetP wr (fun b => wj.heap.size ≤ b ∧ b ≠ gc ∧ b ≠ gt) gc SC) ∧ Hid (SetP wr (fun _ => False) gt S0) ∧ Hid (Below wj.heap.size wj wr)) (fun i _ => 30 - (intOf i).toNat)
        case atStart => exact ⟨0, S, rfl, Nat.zero_le _, Nat.zero_le _, Nat.le_refl _, HPC, HPT, HJ2⟩
        case round =>
          clear HPC HPT HJ2
          obtain ⟨wi, hwi⟩ : ∃ y, y = wr := ⟨_, rfl⟩
          subst hwi
          obtain ⟨k2, SC, rfl, hk2m, hk230, hsz, HPC, HPT, HJ⟩ := hrel
          have hk20 : (0 : Int) ≤ (k2 : Int) := Int.natCast_nonneg _
          have HWI := hid (HB.out.trans (HJ.out.mono HB.out.size))
          by_cases hlt2 : k2 < mn ∧ k2 < 30
          · have hm1 : (k2 : Int) < (mn : Int) := by omega
            have hm2 : (k2 : Int) < 30 := by omega
            obtain ⟨x, hx⟩ : ∃ x, ms[k2]? = some x := ⟨_, List.getElem?_eq_getElem (by rw [HMN.out]; exact hlt2.1)⟩
            obtain ⟨ad, aj, dh, hA, hab, haj, hbj, hde, c0, c1, c2, c3, c4⟩ := (HME.out wi HWI.out).at hx
            subst hA
            have HC := hid (cut_any hde)
            obtain ⟨kd, d, q, kA, kn, kc, mA', mn', mc'⟩ := dh
            simp only at c0 c1 c2 c3 c4 HC
            clear hde hab hbj hx
            go_wp2_with fail
            refine HC.out.mono ?_
            rintro er w4 ⟨dh', rfl, a4, b4⟩
            obtain ⟨ke, de, qe, kAe, kne, kce, mAe, mne, mce⟩ := dh'
            simp only
            obtain ⟨w5, hw5⟩ : ∃ y, y = w4.alloc (.cells #[.int .i64 ke, .int .i64 de, .int .i64 qe, .slice kAe kne kce, .slice mAe mne mce] 33) := ⟨_, rfl⟩
            have HX5 : Hid (DhAt w5 w4.heap.size ⟨ke, de, qe, kAe, kne, kce, mAe, mne, mce⟩) := hid (by rw [hw5]; exact DhAt.new w4 ⟨ke, de, qe, kAe, kne, kce, mAe, mne, mce⟩)
            have HB45 : Hid (Below w4.heap.size w4 w5) := hid (by rw [hw5]; exact (Below.refl _ _).alloc (Nat.le_refl _) _)
            have HB5 : Hid (Below wi.heap.size wi w5) := hid (b4.trans (HB45.out.mono b4.size))
            have HA5 := hid (a4.grew (Grew.of_below (X := fun _ => False) HB45.out) (fun _ _ h => h))
            have HWW := hid hw5
            have hml := HA5.out.ml
            have hkl := HA5.out.kl
            have hmle := cutL_len x.more
            simp only at hml hkl
            have hmn' : mne ≤ 20 := by rw [← hml]; exact hmle
            have hkn' : kne ≤ 20 := by rw [← hkl]; simp [cutD]; omega
            have HML := hid hml
            have HKL := hid hkl
            obtain ⟨b8, hb8⟩ : ∃ y, y = w4.heap.size := ⟨_, rfl⟩
            rw [← hb8] at HX5
            have hb8w : wi.heap.size ≤ b8 := by rw [hb8]; exact b4.size
            have hb85 : b8 < w5.heap.size := HX5.out.lt
            obtain ⟨x0, x1, x2, x3, x4⟩ := HX5.out.all
            simp only at x0 x1 x2 x3 x4
            have HQ : Hid (¬ (gc < w.heap.size ∨ wi.heap.size ≤ gc)) := hid (by have := HB.out.size; omega)
            have HP5 : Hid (SetP w5 (fun b => (wj.heap.size ≤ b ∧ b ≠ gc ∧ b ≠ gt) ∧ b < wi.heap.size) gc SC) := hid ((HPC.out.imp (Q := fun b => (wj.heap.size ≤ b ∧ b ≠ gc ∧ b ≠ gt) ∧ b < wi.heap.size) (fun b hp hl => ⟨hp, hl⟩) (fun h => h.1.2.1 rfl)).below HB5.out)
            have HT5 := hid (HPT.out.below HB5.out)
            clear hml hkl hmle hw5 a4 b4 c0 c1 c2 c3 c4 HPC HPT
            go_upto_region 52 with fail
            rw [← HWW.out]
            rw [← hb8]
            clear hb8
            go_wp2_with fail
            refine (addX_any HP5.out de qe).mono ?_
            rintro er w6 ⟨rfl, s6, g6⟩
            have hg6 := g6
            have hs65 : w5.heap.size ≤ w6.heap.size := g6.size
            have hs5w : wi.heap.size ≤ w5.heap.size := HB5.out.size
            have hjw : wj.heap.size ≤ wi.heap.size := HJ.out.size
            have HP6 := hid s6
            have HT6 := hid (HT5.out.grew hg6 (fun b hb => ⟨id, by rcases hb with e | e <;> omega⟩))
            have HX6 := hid (HX5.out.grew hg6 (by rintro (e | e) <;> omega))
            have HA6 := hid (HA5.out.grew hg6 (fun b hb he => by have h1 := HB.out.size; rcases he with e | e <;> omega))
            have HJ6 : Hid (Below wj.heap.size wj w6) := hid (Grew.then_below (HJ.out.trans (HB5.out.mono HJ.out.size)) hg6 (by have := HJ.out.size; have := HB5.out.size; omega) (fun b hb => by rcases hb with e | e <;> omega))
            have hs6 : w5.heap.size ≤ w6.heap.size := g6.size
            clear s6 g6 hg6 x0 x1 x2 x3 x4 HP5 HT5 HX5 HA5
            obtain ⟨x0, x1, x2, x3, x4⟩ := HX6.out.all
            simp only at x0 x1 x2 x3 x4
            go_wp2_with fail
            refine (mergeX_any HP6.out HQ.out kAe (cutD x).known kne kce HKL.out (by omega) HA6.out.ke mAe (cutD x).more mne mce HML.out (by omega) (fun l hl => by have := cutL_mem l hl; omega) HA6.out.mw HA6.out.me).mono ?_
            rintro er w7 ⟨rfl, s7, g7⟩
            have hg7 := g7
            have HP7 : Hid (SetP w7 (fun b => wj.heap.size ≤ b ∧ b ≠ gc ∧ b ≠ gt) gc _) := hid (s7.imp (fun b hp _ => by
              rcases hp with ⟨hp, _⟩ | ⟨hp, _⟩
              · rcases hp with ⟨hp, _⟩ | ⟨hp, _⟩
                · exact hp.1
                · exact ⟨by omega, by omega, by omega⟩
              · exact ⟨by omega, by omega, by omega⟩) (fun h => h.2.1 rfl))
            have HT7 := hid (HT6.out.grew hg7 (fun b hb => ⟨id, by
              rcases hb with e | e
              · omega
              · rcases e with ⟨e, _⟩ | ⟨e, _⟩ <;> omega⟩))
            have HJ7 : Hid (Below wj.heap.size wj w7) := hid (Grew.then_below HJ6.out hg7 HJ6.out.size (fun b hb => by
              rcases hb with e | e
              · omega
              · rcases e with ⟨e, _⟩ | ⟨e, _⟩ <;> omega))
            have hs7 : w6.heap.size ≤ w7.heap.size := g7.size
            have hs5 : wi.heap.size ≤ w5.heap.size := HB5.out.size
            clear s7 g7 hg7 x0 x1 x2 x3 x4
            go_wp2_with fail
            go_roundw
            case rel => exact ⟨k2 + 1, _, by go_num, by omega, by omega, by omega, HP7, HT7, HJ7⟩
            case measure => simp [intOf]; omega
          · by_cases hm1 : (k2 : Int) < (mn : Int)
            all_goals
              try have hm2 : ¬ (k2 : Int) < 30 := (by omega)
              go_wp2_with fail
              refine (refNew11_any wi).mono ?_
              rintro er w3 ⟨gq, gqL, rfl, r1, r2, r3, r4, b3, p3⟩
              have hgj : gs < wj.heap.size := hls.1
              have HQ3 : Hid (Both w3 wj.heap.size gt gq gqL S0) := hid ⟨fun _ => False, fun b => wi.heap.size ≤ b ∧ b < w3.heap.size ∧ b ≠ gq ∧ b ≠ gqL, ⟨HPT.out.below b3, p3 _ (fun h => h.2.2.1 rfl) (fun h => h.2.2.2 rfl), by omega, by omega, fun _ h => h.elim, id, id, fun h => by omega⟩, fun b h => h.elim False.elim (fun h => ⟨by have := HJ.out.size; omega, h.2.1⟩)⟩
              have HJ3 := hid (HJ.out.trans (b3.mono HJ.out.size))
              have hgq : wi.heap.size ≤ gq ∧ wi.heap.size ≤ gqL ∧ wj.heap.size ≤ wi.heap.size := ⟨r1, r2, HJ.out.size⟩
              clear b3 p3 r1 r2 r3 r4 HPC HPT HWI
              go_wp2_with fail
              go_loopw [27] (fun i wr => ∃ k3 : Nat, i = .int .i64 (k3 : Int) ∧ k3 ≤ n ∧ k3 ≤ 30 ∧ Hid (Both wr wj.heap.size gt gq gqL (doneS S0 (xs.take k3))) ∧ Hid (Below wj.heap.size wj wr)) (fun i _ => 30 - (intOf i).toNat)
              case atStart => exact ⟨0, rfl, Nat.zero_le _, Nat.zero_le _, HQ3, HJ3⟩
              case round =>
                clear HQ3 HJ3
                obtain ⟨wv, hwv⟩ : ∃ y, y = wr := ⟨_, rfl⟩
                subst hwv
                obtain ⟨k3, rfl, hk3, hk330, HQB, HJV⟩ := hrel
                have hk30' : (0 : Int) ≤ (k3 : Int) := Int.natCast_nonneg _
                have HBV := hid (HB.out.trans (HJV.out.mono HB.out.size))
                by_cases hlt3 : k3 < n ∧ k3 < 30
                · have hn1 : (k3 : Int) < (n : Int) := by omega
                  have hn2 : (k3 : Int) < 30 := by omega
                  obtain ⟨x, hx⟩ : ∃ x, xs[k3]? = some x := ⟨_, List.getElem?_eq_getElem (by rw [HN.out]; exact hlt3.1)⟩
                  obtain ⟨ad, aj, dh, hA, hab, haj, hbj, hde, c0, c1, c2, c3, c4⟩ := (HD.out wv HBV.out).at hx
                  subst hA
                  have HDN : Hid (doneS S0 (xs.take (k3 + 1)) = deedS (doneS S0 (xs.take k3)) (cutD x)) := hid (by rw [take_snoc_of hx, doneS_snoc])
                  have HDO := hid (doesE_any HQB.out HJV.out.size (by omega) (by omega) (hde.imp (R := fun b => b < wj.heap.size) (fun b hb _ => by have := HB.out.size; omega)))
                  obtain ⟨kd, d, q, kA, kn, kc, mA', mn', mc'⟩ := dh
                  simp only at c0 c1 c2 c3 c4 HDO
                  clear hde hab hbj hx
                  go_wp2_with fail
                  refine HDO.out.mono ?_
                  rintro er w8 ⟨rfl, o8, g8⟩
                  have HQ8 : Hid (Both w8 wj.heap.size gt gq gqL (doneS S0 (xs.take (k3 + 1)))) := hid (by rw [HDN.out]; exact o8)
                  have HJ8 : Hid (Below wj.heap.size wj w8) := hid (Grew.then_below HJV.out g8 HJV.out.size (fun b hb => hb))
                  clear o8 g8 c0 c1 c2 c3 c4
                  go_wp2_with fail
                  go_roundw
                  case rel => exact ⟨k3 + 1, by go_num, by omega, by omega, HQ8, HJ8⟩
                  case measure => simp [intOf]; omega
                · have hkk : k3 = k := by omega
                  subst hkk
                  rw [HSK.out] at HQB
                  have HLK := hid (like_any (HBO.out.s.below HJV.out) HQB.out.r)
                  go_wp2_with fail
                  refine HLK.out.mono ?_
                  rintro er y1 ⟨rfl, q1⟩
                  have HY1 := hid (HBV.out.trans (q1.mono HBV.out.size))
                  clear q1
                  go_wp2_with fail
                  refine (HLV.out _).mono ?_
                  rintro er y2 ⟨rfl, q2⟩
                  have HY2 := hid (HY1.out.trans (q2.mono HY1.out.size))
                  clear q2
                  go_wp2_with fail
                  go_ret
                  exact ⟨rfl, HY2.out⟩
end Go.Proofs.Ytifoppnpgljphaa.Sh
