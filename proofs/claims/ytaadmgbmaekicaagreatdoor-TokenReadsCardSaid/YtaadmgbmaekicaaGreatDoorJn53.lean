/-
  The walk of TokenReads (the contract of lives is its premise). Written by mk_tklawrd.py.
-/
import Derived.Test.YtaadmgbmaekicaaGreatDoorJn51
import Derived.Test.YtaadmgbmaekicaaGreatDoorJn52
import Derived.Test.YtaadmgbmaekicaaGreatDoorJn43
set_option linter.unusedVariables false
set_option linter.unusedSimpArgs false
namespace Go.Proofs.YtaadmgbmaekicaaGreatDoor.Sh
open Go Go.RowKit

set_option linter.unusedSimpArgs false
set_option linter.unusedVariables false
theorem rcu_box12 (w : World) (A : Option Addr) (l : List UInt8) (n c B : Nat) (hn : l.length = n) (hc : n ≤ c) (hL : n ≤ 1099511627776) (hb : Byt w B A l) (hB : B ≤ w.heap.size) :
    Cu 41 (w.alloc (.cells #[.slice A n c, .int .i64 0, .int .i64 0] 41)) 0 B w.heap.size A n c l 0 0 :=
  ⟨heap_alloc_new w _, hb.below ((Below.refl _ _).alloc hB _), fun _ _ => Nat.zero_le _, hB, hn, hc, hL, Nat.zero_le _⟩
theorem readT_few (l : List UInt8) (p : Nat) (e : Int) : FewTok (readT l p e).1 := by
  unfold readT
  simp only
  split
  · exact rawT_few l p e
  · exact FewTok.zero
set_option maxHeartbeats 16000000 in
set_option maxRecDepth 100000 in
theorem tokenReads_walk (hlv : Lives12) {w : World} (hT : Tab w) (A : Option Addr) (l : List UInt8) (n k : Nat) (hn : l.length = n) (hk : n ≤ k) (hk2 : k ≤ 9223372036854775807) (hb : Byt w w.heap.size A l) :
    Calls Tryz.prog 4 #[.slice A n k] w fun e w' => e = .returned (.bool true) ∧ Below w.heap.size w w' := by
  have HLV : Hid (∀ W, Below w.heap.size w W → Calls Tryz.prog 12 #[] W fun e w' => e = .returned (.bool true) ∧ Below W.heap.size W w') := hid (fun W hW => hlv W (hT.below hT.pos hW))
  clear hlv hT
  by_cases h20 : 500 < n
  · obtain ⟨x, hxe⟩ : ∃ x, l.take 500 = x := ⟨_, rfl⟩
    have hxl : x.length = 500 := by rw [← hxe, List.length_take]; omega
    have y0 : Byt w w.heap.size A x := by rw [← hxe]; exact hb.head (hi := 500)
    have h20' : (500 : Int) < (n : Int) := by omega
    have h20k : 500 ≤ k := by omega
    have hN5 : (500 : Nat) ≤ 500 := Nat.le_refl _
    clear hxe
    have HXL : Hid (x.length = 500) := hid hxl
    have HN5 : Hid (500 ≤ 500 ∧ 500 ≤ k) := hid ⟨hN5, h20k⟩
    have HFT := hid (readT_few x 0 0)
    obtain ⟨t, q, e, hx⟩ : ∃ a b d, readT x 0 0 = (a, b, d) := ⟨_, _, _, rfl⟩
    rw [hx] at HFT
    simp only at HFT
    go_enter Tryz.func4, Tryz.ntmps4
    go_wp2_with fail
    refine (cu_new (c := k) hxl (by omega) w y0).mono ?_
    rintro er w1 ⟨g, A1, k1, rfl, X1, hg, b1⟩
    have y1 := y0.below b1
    have hgl := X1.lt
    have Z2 := rcu_box12 w1 A x 500 k w.heap.size hxl (by omega) (by omega) y1 b1.size
    have X2 := X1.below ((Below.refl _ _).alloc (Nat.le_refl _) (.cells #[.slice A 500 k, .int .i64 0, .int .i64 0] 41)) hgl
    have b2 := b1.alloc b1.size (.cells #[.slice A 500 k, .int .i64 0, .int .i64 0] 41)
    obtain ⟨gx, hgx⟩ : ∃ gx, gx = w1.heap.size := ⟨_, rfl⟩
    rw [← hgx] at Z2
    have hgg : g < gx := by omega
    have hgw : w.heap.size ≤ gx := by have := b1.size; omega
    have HG0 : Hid (w.heap.size ≤ g) := hid hg
    have HY := hid (fun W (hW : Below w.heap.size w W) => (y0.below hW).more hW.size)
    clear X1 y1 b1 hb y0 hn hxl hg
    go_wp2_with fail
    rw [← hgx]
    obtain ⟨w2, hw2⟩ : ∃ w2, w2 = w1.alloc (.cells #[.slice A 500 k, .int .i64 0, .int .i64 0] 41) := ⟨_, rfl⟩
    rw [← hw2] at X2 Z2 b2 ⊢
    have HSX : Hid (w2.heap.size = gx + 1) := hid (by rw [hw2, hgx]; simp)
    clear hw2 hgx hgl
    have C1 := hid (pRead12_any X2)
    have HZ2 := hid Z2
    have HB2 := hid b2
    have HRV := hid hx
    rw [hx] at C1
    clear X2 Z2 b2 hx
    refine C1.out.mono ?_
    rintro er w3 ⟨⟨d, ep, m, who, rA, rn, rc, til, sA, sn, sc, cA, cn, cc, tA, tn, tc⟩, rfl, ht, X3, G3⟩
    obtain ⟨gt, hgt⟩ : ∃ y, y = w3.heap.size := ⟨_, rfl⟩
    obtain ⟨w4, hw4⟩ : ∃ y, y = w3.alloc (.cells #[.int .i64 d, .int .i64 ep, .int .i64 m, .string who, .slice rA rn rc, .int .i64 til, .slice sA sn sc, .slice cA cn cc, .slice tA tn tc] 27) := ⟨_, rfl⟩
    have hb4 : Below w3.heap.size w3 w4 := by rw [hw4]; exact (Below.refl _ _).alloc (Nat.le_refl _) _
    have HX4 := hid (X3.below hb4 X3.lt)
    have HZ3 := HZ2.out.other G3 (by omega) (.inr (by have := HG0.out; omega))
    have HZ4 := hid (HZ3.below hb4 HZ3.lt)
    have HB3 := HB2.out.grown G3 HB2.out.size (fun b e => by injection e with e; have := HG0.out; omega)
    have HB4 := hid (HB3.trans (hb4.mono HB3.size))
    have HT4 := hid ((ht.below hb4).imp (R := fun b => gx < b) (fun b hb _ => by have := HSX.out; omega))
    have HR4 : Hid (ThAt w4 gt ⟨d, ep, m, who, rA, rn, rc, til, sA, sn, sc, cA, cn, cc, tA, tn, tc⟩) := hid (by rw [hw4, hgt]; exact ThAt.new w3 ⟨d, ep, m, who, rA, rn, rc, til, sA, sn, sc, cA, cn, cc, tA, tn, tc⟩)
    have HGT : Hid (gx < gt) := hid (by rw [hgt]; exact HZ3.lt)
    have HW4 := hid hw4
    have HGT2 := hid hgt
    clear ht X3 G3 hw4 hgt hb4 HZ3 HB3 C1 HZ2 HB2
    unfold TH.cells
    go_upto_region 8 with fail
    rw [← HW4.out, ← HGT2.out]
    clear HW4 HGT2
    have HD := (Below.refl w4.heap.size w4).drew
    have HXD := hid (HX4.out.below HD HX4.out.lt)
    have HZD := hid (HZ4.out.below HD HZ4.out.lt)
    have HBD := hid (HB4.out.trans (HD.mono HB4.out.size))
    have HTD := hid (HT4.out.below HD)
    have HRD := hid (HR4.out.below HD)
    clear HD HX4 HZ4 HB4 HT4 HR4
    have C2 := hid (refRead12_any HZD.out)
    rw [HRV.out] at C2
    obtain ⟨c0, c1, c2, c3, c4, c5, c6, c7, c8⟩ := HRD.out.all
    simp only at c0 c1 c2 c3 c4 c5 c6 c7 c8
    go_region_held3 (fun W => W.cell? ⟨gt, 0, none⟩ = some (.int .i64 d) ∧ W.cell? ⟨gt, 1, none⟩ = some (.int .i64 ep) ∧ W.cell? ⟨gt, 2, none⟩ = some (.int .i64 m) ∧ W.cell? ⟨gt, 3, none⟩ = some (.string who) ∧ W.cell? ⟨gt, 4, none⟩ = some (.slice rA rn rc) ∧ W.cell? ⟨gt, 5, none⟩ = some (.int .i64 til) ∧ W.cell? ⟨gt, 6, none⟩ = some (.slice sA sn sc) ∧ W.cell? ⟨gt, 7, none⟩ = some (.slice cA cn cc) ∧ W.cell? ⟨gt, 8, none⟩ = some (.slice tA tn tc))
      (first | exact HRD.out.all | exact HR5.out.all | exact HR6.out.all)
      ((first
        | (go_at_call 15; (refine C2.out.mono ?_); rintro er w5 ⟨⟨d', ep', m', who', rA', rn', rc', til', sA', sn', sc', cA', cn', cc', tA', tn', tc'⟩, rfl, ht, Z5, G5⟩; have HZ5 := hid Z5; have HX5 := hid (HXD.out.other G5 (by omega) (.inr (by omega))); have HB5 := hid (HBD.out.grown G5 HBD.out.size (fun b e => by injection e with e; omega)); have HT5 := hid (HTD.out.kept (fun b hb hl => G5.block b hl (fun e => by injection e with e; omega)) G5.size); have HR5 := hid (HRD.out.gro G5 (by have := HGT.out; omega)); have HU5 := hid ht; clear ht Z5 G5 HXD HZD HBD HTD)
        | (go_at_call 9; (refine (sameTok_eq HT5.out HU5.out (by have := HFT.out.r; omega) (by have := HFT.out.s; omega) (by have := HFT.out.g; omega) (fun c hc => by have := HFT.out.c c hc; omega)).mono ?_); rintro er w6 ⟨rfl, b6⟩; have HX6 := hid (HX5.out.below b6 HX5.out.lt); have HZ6 := hid (HZ5.out.below b6 HZ5.out.lt); have HB6 := hid (HB5.out.trans (b6.mono HB5.out.size)); have HT6 := hid (HT5.out.below b6); have HR6 := hid (HR5.out.below b6); clear b6 HX5 HZ5 HB5 HT5 HU5)))
    all_goals
      clear c0 c1 c2 c3 c4 c5 c6 c7 c8
      have z1 := HZ6.out.row.c1
      have z2 := HZ6.out.row.c2
      have HXE := hid (HX6.out.below (Below.refl w6.heap.size w6).drew HX6.out.lt)
      go_wp2_with fail
      go_quiet ((first
        | exact quiet_left (place_any _ _ _ _ _ _ _ (HX6.out.drewN _).row)
        | exact quiet_left (err_any _ _ _ _ _ _ _ (HX6.out.drewN _).row)))
      obtain ⟨w7, hw7⟩ : ∃ y, y = w6.drewN nq := ⟨_, rfl⟩
      rw [← hw7]
      have HX7 : Hid (Cu 76 w7 w.heap.size g g A1 500 k1 x q e) := hid (by rw [hw7]; exact HX6.out.drewN nq)
      have HZ7 : Hid (Cu 41 w7 0 w.heap.size gx A 500 k x q e) := hid (by rw [hw7]; exact HZ6.out.drewN nq)
      have HB7 : Hid (Below w.heap.size w w7) := hid (by rw [hw7]; exact below_drewN HB6.out nq)
      have HT7 : Hid (TokAt w7 (fun b => gx < b) ⟨d, ep, m, who, rA, rn, rc, til, sA, sn, sc, cA, cn, cc, tA, tn, tc⟩ t) := hid (by rw [hw7]; exact HT6.out.kept (fun _ _ _ => rfl) (Nat.le_refl _))
      have HR7 : Hid (ThAt w7 gt ⟨d, ep, m, who, rA, rn, rc, til, sA, sn, sc, cA, cn, cc, tA, tn, tc⟩) := hid (by rw [hw7]; exact HR6.out)
      clear hw7 HX6 HZ6 HB6 HT6 HR6 z1 z2 HXE
      by_cases he : e = 0
      · subst he
        obtain ⟨hok, htk, hql⟩ := readT_back HRV.out
        have hqn : q ≤ 500 := by rw [← HXL.out]; exact hql
        have hqk : (q : Int) ≤ (k : Int) := by have := HN5.out; omega
        have hq0 : (0 : Int) ≤ (q : Int) := Int.natCast_nonneg _
        have HEL : Hid ((putT t).length = q) := hid (by rw [← htk, List.length_take]; omega)
        have HQ5 : Hid (q ≤ 500) := hid (by have := HN5.out; omega)
        have HTK := hid htk
        have HOK := hid hok
        clear hok htk hql
        go_wp2_with fail
        refine (err_any _ _ _ _ _ _ _ HX7.out.row).mono ?_
        rintro er wq ⟨rfl, hw⟩
        have hw2 : w7 = wq := hw
        subst hw2
        clear hw
        obtain ⟨c0, c1, c2, c3, c4, c5, c6, c7, c8⟩ := HR7.out.all
        simp only at c0 c1 c2 c3 c4 c5 c6 c7 c8
        have HP := hid (pPut12_any HT7.out HOK.out)
        unfold TH.cells at HP
        simp only at HP
        go_wp2_with fail
        refine HP.out.mono ?_
        rintro er w8 ⟨Ap, Np, cp, rfl, hNp, yp, hb⟩
        have hNq : Np = q := hNp.symm.trans HEL.out
        subst hNq
        have HB8 := hid (HB7.out.trans (hb.mono HB7.out.size))
        have HZ8 := hid (HZ7.out.below hb HZ7.out.lt)
        have HP8 := hid yp
        have HY8 : Hid (Byt w8 w8.heap.size A (putT t)) := hid (by rw [← HTK.out]; exact (HY.out w8 HB8.out).head)
        have z1 := HZ8.out.row.c1
        clear hb yp hNp HX7 HZ7 HB7 HT7 HR7 HP c0 c1 c2 c3 c4 c5 c6 c7 c8
        go_wp2_with fail
        refine (same_eq Ap A (putT t) Np cp k HEL.out (by have := HQ5.out; omega) _ HP8.out HY8.out).mono ?_
        rintro er w9 ⟨rfl, kk, hk9⟩
        have HB9 : Hid (Below w.heap.size w w9) := hid (by rw [hk9]; exact below_drewN HB8.out kk)
        clear z1 hk9
        go_wp2_with fail
        refine (HLV.out _ HB9.out).mono ?_
        rintro er wa ⟨rfl, hb⟩
        have HBA := hid (HB9.out.trans (hb.mono HB9.out.size))
        clear hb
        go_wp2_with fail
        go_ret
        exact ⟨rfl, HBA.out⟩
      · have he2 : (e == 0) = false := beq_eq_false_iff_ne.2 he
        go_wp2_with fail
        refine (err_any _ _ _ _ _ _ _ HX7.out.row).mono ?_
        rintro er wq ⟨rfl, hw⟩
        have hw2 : w7 = wq := hw
        subst hw2
        clear hw
        go_wp2_with fail
        refine (HLV.out _ HB7.out).mono ?_
        rintro er wa ⟨rfl, hb⟩
        have HBA := hid (HB7.out.trans (hb.mono HB7.out.size))
        clear hb
        go_wp2_with fail
        go_ret
        exact ⟨rfl, HBA.out⟩
  · obtain ⟨x, hxe⟩ : ∃ x, l = x := ⟨_, rfl⟩
    have hxl : x.length = n := by rw [← hxe]; exact hn
    have y0 : Byt w w.heap.size A x := by rw [← hxe]; exact hb
    have h20' : ¬ (500 : Int) < (n : Int) := by omega
    have h20k : n ≤ k := hk
    have hN5 : n ≤ 500 := by omega
    clear hxe
    have HXL : Hid (x.length = n) := hid hxl
    have HN5 : Hid (n ≤ 500 ∧ n ≤ k) := hid ⟨hN5, h20k⟩
    have HFT := hid (readT_few x 0 0)
    obtain ⟨t, q, e, hx⟩ : ∃ a b d, readT x 0 0 = (a, b, d) := ⟨_, _, _, rfl⟩
    rw [hx] at HFT
    simp only at HFT
    go_enter Tryz.func4, Tryz.ntmps4
    go_wp2_with fail
    refine (cu_new (c := k) hxl (by omega) w y0).mono ?_
    rintro er w1 ⟨g, A1, k1, rfl, X1, hg, b1⟩
    have y1 := y0.below b1
    have hgl := X1.lt
    have Z2 := rcu_box12 w1 A x n k w.heap.size hxl (by omega) (by omega) y1 b1.size
    have X2 := X1.below ((Below.refl _ _).alloc (Nat.le_refl _) (.cells #[.slice A n k, .int .i64 0, .int .i64 0] 41)) hgl
    have b2 := b1.alloc b1.size (.cells #[.slice A n k, .int .i64 0, .int .i64 0] 41)
    obtain ⟨gx, hgx⟩ : ∃ gx, gx = w1.heap.size := ⟨_, rfl⟩
    rw [← hgx] at Z2
    have hgg : g < gx := by omega
    have hgw : w.heap.size ≤ gx := by have := b1.size; omega
    have HG0 : Hid (w.heap.size ≤ g) := hid hg
    have HY := hid (fun W (hW : Below w.heap.size w W) => (y0.below hW).more hW.size)
    clear X1 y1 b1 hb y0 hn hxl hg
    go_wp2_with fail
    rw [← hgx]
    obtain ⟨w2, hw2⟩ : ∃ w2, w2 = w1.alloc (.cells #[.slice A n k, .int .i64 0, .int .i64 0] 41) := ⟨_, rfl⟩
    rw [← hw2] at X2 Z2 b2 ⊢
    have HSX : Hid (w2.heap.size = gx + 1) := hid (by rw [hw2, hgx]; simp)
    clear hw2 hgx hgl
    have C1 := hid (pRead12_any X2)
    have HZ2 := hid Z2
    have HB2 := hid b2
    have HRV := hid hx
    rw [hx] at C1
    clear X2 Z2 b2 hx
    refine C1.out.mono ?_
    rintro er w3 ⟨⟨d, ep, m, who, rA, rn, rc, til, sA, sn, sc, cA, cn, cc, tA, tn, tc⟩, rfl, ht, X3, G3⟩
    obtain ⟨gt, hgt⟩ : ∃ y, y = w3.heap.size := ⟨_, rfl⟩
    obtain ⟨w4, hw4⟩ : ∃ y, y = w3.alloc (.cells #[.int .i64 d, .int .i64 ep, .int .i64 m, .string who, .slice rA rn rc, .int .i64 til, .slice sA sn sc, .slice cA cn cc, .slice tA tn tc] 27) := ⟨_, rfl⟩
    have hb4 : Below w3.heap.size w3 w4 := by rw [hw4]; exact (Below.refl _ _).alloc (Nat.le_refl _) _
    have HX4 := hid (X3.below hb4 X3.lt)
    have HZ3 := HZ2.out.other G3 (by omega) (.inr (by have := HG0.out; omega))
    have HZ4 := hid (HZ3.below hb4 HZ3.lt)
    have HB3 := HB2.out.grown G3 HB2.out.size (fun b e => by injection e with e; have := HG0.out; omega)
    have HB4 := hid (HB3.trans (hb4.mono HB3.size))
    have HT4 := hid ((ht.below hb4).imp (R := fun b => gx < b) (fun b hb _ => by have := HSX.out; omega))
    have HR4 : Hid (ThAt w4 gt ⟨d, ep, m, who, rA, rn, rc, til, sA, sn, sc, cA, cn, cc, tA, tn, tc⟩) := hid (by rw [hw4, hgt]; exact ThAt.new w3 ⟨d, ep, m, who, rA, rn, rc, til, sA, sn, sc, cA, cn, cc, tA, tn, tc⟩)
    have HGT : Hid (gx < gt) := hid (by rw [hgt]; exact HZ3.lt)
    have HW4 := hid hw4
    have HGT2 := hid hgt
    clear ht X3 G3 hw4 hgt hb4 HZ3 HB3 C1 HZ2 HB2
    unfold TH.cells
    go_upto_region 8 with fail
    rw [← HW4.out, ← HGT2.out]
    clear HW4 HGT2
    have HD := (Below.refl w4.heap.size w4).drew
    have HXD := hid (HX4.out.below HD HX4.out.lt)
    have HZD := hid (HZ4.out.below HD HZ4.out.lt)
    have HBD := hid (HB4.out.trans (HD.mono HB4.out.size))
    have HTD := hid (HT4.out.below HD)
    have HRD := hid (HR4.out.below HD)
    clear HD HX4 HZ4 HB4 HT4 HR4
    have C2 := hid (refRead12_any HZD.out)
    rw [HRV.out] at C2
    obtain ⟨c0, c1, c2, c3, c4, c5, c6, c7, c8⟩ := HRD.out.all
    simp only at c0 c1 c2 c3 c4 c5 c6 c7 c8
    go_region_held3 (fun W => W.cell? ⟨gt, 0, none⟩ = some (.int .i64 d) ∧ W.cell? ⟨gt, 1, none⟩ = some (.int .i64 ep) ∧ W.cell? ⟨gt, 2, none⟩ = some (.int .i64 m) ∧ W.cell? ⟨gt, 3, none⟩ = some (.string who) ∧ W.cell? ⟨gt, 4, none⟩ = some (.slice rA rn rc) ∧ W.cell? ⟨gt, 5, none⟩ = some (.int .i64 til) ∧ W.cell? ⟨gt, 6, none⟩ = some (.slice sA sn sc) ∧ W.cell? ⟨gt, 7, none⟩ = some (.slice cA cn cc) ∧ W.cell? ⟨gt, 8, none⟩ = some (.slice tA tn tc))
      (first | exact HRD.out.all | exact HR5.out.all | exact HR6.out.all)
      ((first
        | (go_at_call 15; (refine C2.out.mono ?_); rintro er w5 ⟨⟨d', ep', m', who', rA', rn', rc', til', sA', sn', sc', cA', cn', cc', tA', tn', tc'⟩, rfl, ht, Z5, G5⟩; have HZ5 := hid Z5; have HX5 := hid (HXD.out.other G5 (by omega) (.inr (by omega))); have HB5 := hid (HBD.out.grown G5 HBD.out.size (fun b e => by injection e with e; omega)); have HT5 := hid (HTD.out.kept (fun b hb hl => G5.block b hl (fun e => by injection e with e; omega)) G5.size); have HR5 := hid (HRD.out.gro G5 (by have := HGT.out; omega)); have HU5 := hid ht; clear ht Z5 G5 HXD HZD HBD HTD)
        | (go_at_call 9; (refine (sameTok_eq HT5.out HU5.out (by have := HFT.out.r; omega) (by have := HFT.out.s; omega) (by have := HFT.out.g; omega) (fun c hc => by have := HFT.out.c c hc; omega)).mono ?_); rintro er w6 ⟨rfl, b6⟩; have HX6 := hid (HX5.out.below b6 HX5.out.lt); have HZ6 := hid (HZ5.out.below b6 HZ5.out.lt); have HB6 := hid (HB5.out.trans (b6.mono HB5.out.size)); have HT6 := hid (HT5.out.below b6); have HR6 := hid (HR5.out.below b6); clear b6 HX5 HZ5 HB5 HT5 HU5)))
    all_goals
      clear c0 c1 c2 c3 c4 c5 c6 c7 c8
      have z1 := HZ6.out.row.c1
      have z2 := HZ6.out.row.c2
      have HXE := hid (HX6.out.below (Below.refl w6.heap.size w6).drew HX6.out.lt)
      go_wp2_with fail
      go_quiet ((first
        | exact quiet_left (place_any _ _ _ _ _ _ _ (HX6.out.drewN _).row)
        | exact quiet_left (err_any _ _ _ _ _ _ _ (HX6.out.drewN _).row)))
      obtain ⟨w7, hw7⟩ : ∃ y, y = w6.drewN nq := ⟨_, rfl⟩
      rw [← hw7]
      have HX7 : Hid (Cu 76 w7 w.heap.size g g A1 n k1 x q e) := hid (by rw [hw7]; exact HX6.out.drewN nq)
      have HZ7 : Hid (Cu 41 w7 0 w.heap.size gx A n k x q e) := hid (by rw [hw7]; exact HZ6.out.drewN nq)
      have HB7 : Hid (Below w.heap.size w w7) := hid (by rw [hw7]; exact below_drewN HB6.out nq)
      have HT7 : Hid (TokAt w7 (fun b => gx < b) ⟨d, ep, m, who, rA, rn, rc, til, sA, sn, sc, cA, cn, cc, tA, tn, tc⟩ t) := hid (by rw [hw7]; exact HT6.out.kept (fun _ _ _ => rfl) (Nat.le_refl _))
      have HR7 : Hid (ThAt w7 gt ⟨d, ep, m, who, rA, rn, rc, til, sA, sn, sc, cA, cn, cc, tA, tn, tc⟩) := hid (by rw [hw7]; exact HR6.out)
      clear hw7 HX6 HZ6 HB6 HT6 HR6 z1 z2 HXE
      by_cases he : e = 0
      · subst he
        obtain ⟨hok, htk, hql⟩ := readT_back HRV.out
        have hqn : q ≤ n := by rw [← HXL.out]; exact hql
        have hqk : (q : Int) ≤ (k : Int) := by have := HN5.out; omega
        have hq0 : (0 : Int) ≤ (q : Int) := Int.natCast_nonneg _
        have HEL : Hid ((putT t).length = q) := hid (by rw [← htk, List.length_take]; omega)
        have HQ5 : Hid (q ≤ 500) := hid (by have := HN5.out; omega)
        have HTK := hid htk
        have HOK := hid hok
        clear hok htk hql
        go_wp2_with fail
        refine (err_any _ _ _ _ _ _ _ HX7.out.row).mono ?_
        rintro er wq ⟨rfl, hw⟩
        have hw2 : w7 = wq := hw
        subst hw2
        clear hw
        obtain ⟨c0, c1, c2, c3, c4, c5, c6, c7, c8⟩ := HR7.out.all
        simp only at c0 c1 c2 c3 c4 c5 c6 c7 c8
        have HP := hid (pPut12_any HT7.out HOK.out)
        unfold TH.cells at HP
        simp only at HP
        go_wp2_with fail
        refine HP.out.mono ?_
        rintro er w8 ⟨Ap, Np, cp, rfl, hNp, yp, hb⟩
        have hNq : Np = q := hNp.symm.trans HEL.out
        subst hNq
        have HB8 := hid (HB7.out.trans (hb.mono HB7.out.size))
        have HZ8 := hid (HZ7.out.below hb HZ7.out.lt)
        have HP8 := hid yp
        have HY8 : Hid (Byt w8 w8.heap.size A (putT t)) := hid (by rw [← HTK.out]; exact (HY.out w8 HB8.out).head)
        have z1 := HZ8.out.row.c1
        clear hb yp hNp HX7 HZ7 HB7 HT7 HR7 HP c0 c1 c2 c3 c4 c5 c6 c7 c8
        go_wp2_with fail
        refine (same_eq Ap A (putT t) Np cp k HEL.out (by have := HQ5.out; omega) _ HP8.out HY8.out).mono ?_
        rintro er w9 ⟨rfl, kk, hk9⟩
        have HB9 : Hid (Below w.heap.size w w9) := hid (by rw [hk9]; exact below_drewN HB8.out kk)
        clear z1 hk9
        go_wp2_with fail
        refine (HLV.out _ HB9.out).mono ?_
        rintro er wa ⟨rfl, hb⟩
        have HBA := hid (HB9.out.trans (hb.mono HB9.out.size))
        clear hb
        go_wp2_with fail
        go_ret
        exact ⟨rfl, HBA.out⟩
      · have he2 : (e == 0) = false := beq_eq_false_iff_ne.2 he
        go_wp2_with fail
        refine (err_any _ _ _ _ _ _ _ HX7.out.row).mono ?_
        rintro er wq ⟨rfl, hw⟩
        have hw2 : w7 = wq := hw
        subst hw2
        clear hw
        go_wp2_with fail
        refine (HLV.out _ HB7.out).mono ?_
        rintro er wa ⟨rfl, hb⟩
        have HBA := hid (HB7.out.trans (hb.mono HB7.out.size))
        clear hb
        go_wp2_with fail
        go_ret
        exact ⟨rfl, HBA.out⟩
end Go.Proofs.YtaadmgbmaekicaaGreatDoor.Sh
