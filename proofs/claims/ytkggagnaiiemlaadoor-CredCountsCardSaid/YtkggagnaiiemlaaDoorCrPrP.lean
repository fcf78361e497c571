/-
  The program's own withRole, encoded and Put of a credential, by contract.
-/
import Derived.Test.YtkggagnaiiemlaaDoorCrPrT
import Derived.Test.YtkggagnaiiemlaaDoorCrRefP
import Derived.Test.YtkggagnaiiemlaaDoorBaCat
namespace Go.Proofs.YtkggagnaiiemlaaDoor.Sh
open Go Go.RowKit

set_option maxHeartbeats 2000000 in
theorem withRole_any (A : Option Addr) (l : List UInt8) (o s : ByteArray) (n c : Nat) (hn : l.length = n) (hL : n ≤ 1099511620000) (hs : s.size ≤ 1000) (w : World) (hb : Byt w w.heap.size A l) :
    Calls Tryd.prog 67 #[.slice A n c, .agg #[.string o, .string s]] w fun e w' => Puts w w' e l (putR o s) := by
  have HN := hid (fun w => nnum_any o w)
  have hk16 := numL_lt o.data.toList
  obtain ⟨k, hk⟩ : ∃ k, numL o.data.toList = k := ⟨_, rfl⟩
  have HE : Hid (putR o s = enc k ++ encText s) := hid (by rw [putR, hk])
  rw [hk] at HN hk16
  clear hk
  obtain ⟨w0, hw0⟩ : ∃ w0, w0 = w.alloc (.cells #[.string o, .string s] 25) := ⟨_, rfl⟩
  have r0 : RoleAt w0 w.heap.size o s := by rw [hw0]; exact RoleAt.new w o s
  have B0 : Hid (Below w.heap.size w w0) := by rw [hw0]; exact hid (below_box w o s)
  have hNN : ∀ x : Nat, x = (l ++ enc k).length → x ≤ n + 9 := fun x hx => by have := enc_len_le (n := k) (by omega); rw [hx, List.length_append, hn]; omega
  have HNN := hid hNN
  have HNL := hid hn
  clear hn hNN
  go_enter Tryd.func67, Tryd.ntmps67
  go_wp2_with fail
  rw [← hw0]
  clear hw0
  have HK := hid (fun W (hW : Below w0.heap.size w0 W) => (⟨(r0.kept hW).c0, (r0.kept hW).c1⟩ : W.cell? ⟨w.heap.size, 0, none⟩ = some (.string o) ∧ W.cell? ⟨w.heap.size, 1, none⟩ = some (.string s)))
  have HY := hid (fun W (hW : Below w0.heap.size w0 W) => (hb.below (B0.out.trans (hW.mono B0.out.size))).more (B0.out.trans (hW.mono B0.out.size)).size)
  have HD := hid (Below.refl w0.heap.size w0).drew
  clear r0 hb
  go_region_held3 (fun W => W.cell? ⟨w.heap.size, 0, none⟩ = some (.string o) ∧ W.cell? ⟨w.heap.size, 1, none⟩ = some (.string s)) (first | exact HK.out _ B3.out | exact HK.out _ B2.out | exact HK.out _ B1.out | exact HK.out _ HD.out | go_keep) (first
    | (go_at_call 75; (refine (HN.out _).mono ?_); rintro er w5 ⟨rfl, bb⟩; have B1 := hid (kept_trans HD.out HD.out.size bb); clear bb)
    | (go_at_call 65; (refine (number_any A l (k : Int) n c HNL.out (by omega) (by omega) (by omega) _ (HY.out _ B1.out)).mono ?_); rintro er w6 hP; (obtain ⟨A1, c1, N1, rfl, hl1, hN1, y1, b1⟩ := hP.open); have B2 := hid (kept_trans B1.out B1.out.size b1); have P1 := hid hP; have HX := hid hl1; have HX9 := HNN.out N1 hl1.symm; have HY1 := hid y1; clear hP hl1 hN1 y1 b1)
    | (go_at_call 66; (refine (text_any A1 _ s N1 c1 HX.out (by omega) (by omega) _ HY1.out).mono ?_); rintro er w7 hP; (obtain ⟨A2, c2, N2, rfl, hl2, hN2, y2, b2⟩ := hP.open); have B3 := hid (kept_trans B2.out B2.out.size b2); have P2 := hid hP; clear hP hl2 hN2 y2 b2)
    | fail)
  all_goals
    go_wp2
    go_ret
    rw [HE.out]
    have := (P1.out.then P2.out).from B1.out
    exact this.from B0.out

/-- A store into an older block behind a Number or Text. -/
theorem Puts.poke {w w5 w6 w7 : World} {e : Ending} {l k1 k2 : List UInt8} {g : Nat} (b : Below w.heap.size w w5) (hP : Puts w5 w6 e (l ++ k1) k2) (hg : w6.grownBy w7 (some g)) (h1 : w.heap.size ≤ g) (h2 : g < w5.heap.size) :
    Puts w w7 e l (k1 ++ k2) ∧ ∀ A N c, e = .returned (.slice A N c) → Byt w7 w7.heap.size A (l ++ k1 ++ k2) := by
  obtain ⟨A, c, N, g1, g2, g3, g4, g5, g6⟩ := hP
  have hk : OwnB w7 w5.heap.size (.slice A N c) N (l ++ k1 ++ k2) := World.ownsRow.kept g5 hg (by
    cases hv : (Value.slice A N c).ownBlock with
    | none => exact .inl rfl
    | some k => exact .inr (fun e => by injection e with e; have := (World.ownsRow.lt g5 k hv).1; omega))
  refine ⟨⟨A, c, N, g1, by rw [g2]; simp; omega, g3, g4, by rw [← List.append_assoc]; exact hk.mono b.size, (b.trans (g6.mono b.size)).grown hg (by have := b.size; have := g6.size; omega) (fun x e => by injection e with e; omega)⟩, fun A' N' c' e => ?_⟩
  rw [g1] at e
  simp only [Ending.returned.injEq, Value.slice.injEq] at e
  obtain ⟨rfl, rfl, rfl⟩ := e
  exact hk.byt

set_option maxHeartbeats 8000000 in
theorem encoded_any (cr : Crd) (hm : mayC cr = true) (w : World) :
    Calls Tryd.prog 46 #[.agg cr.cells.toArray] w fun e w' => Puts w w' e [] (putC cr) := by
  obtain ⟨w1, hw1⟩ : ∃ w1, w1 = w.alloc (.cells cr.cells.toArray 27) := ⟨_, rfl⟩
  have r1 : CrAt w1 w.heap.size cr := by rw [hw1]; exact CrAt.new w cr
  have B1 : Hid (Below w.heap.size w w1) := by rw [hw1]; exact hid (below_cr w cr)
  have HB := hid hm
  clear hm
  obtain ⟨d, q, nm, kd, wh, ao, an, bo, bn⟩ := cr
  obtain ⟨m1, m2, m3, m4, m5, m6⟩ := may_sizes HB.out
  obtain ⟨g1, g2, g3, g4, _⟩ := may_head HB.out
  have hk := may_kind HB.out
  simp only at m1 m2 m3 m4 m5 m6 g1 g2 g3 g4 hk
  have hkk : 1 ≤ kd ∧ kd ≤ 4 := by rcases hk with k | k | k | k <;> omega
  unfold Crd.cells at hw1 ⊢
  simp only at hw1 ⊢
  obtain ⟨c0, c1, c2, c3, c4, c5, c6, c7, c8⟩ := r1.all
  have R1 := hid r1
  clear r1
  go_enter Tryd.func46, Tryd.ntmps46
  rw [hw1] at c0 c1 c2 c3 c4 c5 c6 c7 c8
  go_wp2_with fail
  rw [← hw1] at c0 c1 c2 c3 c4 c5 c6 c7 c8 ⊢
  clear hw1
  refine (number_any none [] d 0 0 rfl (by omega) (by omega) (by omega) w1 Byt.nil).mono ?_
  rintro er w2 hP
  obtain ⟨A2, k2, N2, rfl, hl2, hN2, y2, b2⟩ := hP.open
  have R2 := hid (R1.out.kept b2)
  have P2 := hid (hP.from B1.out)
  have hX2 : N2 ≤ 30 := by have := enc_len_le (n := (d).toNat) (by omega); rw [hN2]; simp; omega
  have HX2 := hid hl2
  have HY2 := hid y2
  clear hP c0 c1 c2 c3 c4 c5 c6 c7 c8 hN2 hl2 b2 y2
  obtain ⟨c0, c1, c2, c3, c4, c5, c6, c7, c8⟩ := R2.out.all
  go_wp2_with fail
  refine (number_any A2 _ q N2 k2 HX2.out (by omega) (by omega) (by omega) w2 HY2.out).mono ?_
  rintro er w3 hP
  obtain ⟨A3, k3, N3, rfl, hl3, hN3, y3, b3⟩ := hP.open
  have R3 := hid (R2.out.kept b3)
  have P3 := hid (P2.out.then (by simpa only [List.append_assoc, List.nil_append] using hP))
  have hX3 : N3 ≤ N2 + 30 := by have := enc_len_le (n := (q).toNat) (by omega); rw [hN3]; rw [HX2.out]; omega
  have HX3 := hid hl3
  have HY3 := hid y3
  clear hP c0 c1 c2 c3 c4 c5 c6 c7 c8 hN3 hl3 b3 y3
  obtain ⟨c0, c1, c2, c3, c4, c5, c6, c7, c8⟩ := R3.out.all
  go_wp2_with fail
  refine (text_any A3 _ nm N3 k3 HX3.out (by omega) (by omega) w3 HY3.out).mono ?_
  rintro er w4 hP
  obtain ⟨A4, k4, N4, rfl, hl4, hN4, y4, b4⟩ := hP.open
  have R4 := hid (R3.out.kept b4)
  have P4 := hid (P3.out.then (by simpa only [List.append_assoc, List.nil_append] using hP))
  have hX4 : N4 ≤ N3 + 30 := by have := encText_le nm (by omega); rw [hN4]; rw [HX3.out]; omega
  have HX4 := hid hl4
  have HY4 := hid y4
  clear hP c0 c1 c2 c3 c4 c5 c6 c7 c8 hN4 hl4 b4 y4
  obtain ⟨c0, c1, c2, c3, c4, c5, c6, c7, c8⟩ := R4.out.all
  go_wp2_with fail
  refine (number_any A4 _ kd N4 k4 HX4.out (by omega) (by omega) (by omega) w4 HY4.out).mono ?_
  rintro er w5 hP
  obtain ⟨A5, k5, N5, rfl, hl5, hN5, y5, b5⟩ := hP.open
  have R5 := hid (R4.out.kept b5)
  have P5 := hid (P4.out.then (by simpa only [List.append_assoc, List.nil_append] using hP))
  have hX5 : N5 ≤ N4 + 30 := by have := enc_len_le (n := (kd).toNat) (by omega); rw [hN5]; rw [HX4.out]; omega
  have HX5 := hid hl5
  have HY5 := hid y5
  clear hP c0 c1 c2 c3 c4 c5 c6 c7 c8 hN5 hl5 b5 y5
  obtain ⟨c0, c1, c2, c3, c4, c5, c6, c7, c8⟩ := R5.out.all
  rcases hk with ⟨rfl, -⟩ | ⟨rfl, -⟩ | ⟨rfl, -⟩ | ⟨rfl, -⟩
  · go_wp2_with fail
    refine (text_any A5 _ wh N5 k5 HX5.out (by omega) (by omega) w5 HY5.out).mono ?_
    rintro er w6 hP
    obtain ⟨A6, k6, N6, rfl, hl6, hN6, y6, b6⟩ := hP.open
    have R6 := hid (R5.out.kept b6)
    have P6 := hid (P5.out.then (by simpa only [List.append_assoc, List.nil_append] using hP))
    have hX6 : N6 ≤ N5 + 30 := by have := encText_le wh (by omega); rw [hN6]; rw [HX5.out]; omega
    have HX6 := hid hl6
    have HY6 := hid y6
    clear hP c0 c1 c2 c3 c4 c5 c6 c7 c8 hN6 hl6 b6 y6
    obtain ⟨c0, c1, c2, c3, c4, c5, c6, c7, c8⟩ := R6.out.all
    go_wp2
    go_ret
    have hh := P6.out
    unfold putC
    rw [putBody_1 rfl]
    simp only [List.append_assoc] at hh ⊢
    exact hh
  · go_wp2_with fail
    refine (withRole_any A5 _ ao an N5 k5 HX5.out (by omega) (by omega) w5 HY5.out).mono ?_
    rintro er w6 hP
    obtain ⟨A6, k6, N6, rfl, hl6, hN6, y6, b6⟩ := hP.open
    have R6 := hid (R5.out.kept b6)
    have P6 := hid (P5.out.then (by simpa only [List.append_assoc, List.nil_append] using hP))
    have hX6 : N6 ≤ N5 + 30 := by have := putR_le ao an (by omega); rw [hN6]; rw [HX5.out]; omega
    have HX6 := hid hl6
    have HY6 := hid y6
    clear hP c0 c1 c2 c3 c4 c5 c6 c7 c8 hN6 hl6 b6 y6
    obtain ⟨c0, c1, c2, c3, c4, c5, c6, c7, c8⟩ := R6.out.all
    go_wp2
    go_ret
    have hh := P6.out
    unfold putC
    rw [putBody_2 rfl]
    simp only [List.append_assoc] at hh ⊢
    exact hh
  · go_wp2_with fail
    refine (text_any A5 _ an N5 k5 HX5.out (by omega) (by omega) w5 HY5.out).mono ?_
    rintro er w6 hP
    obtain ⟨A6, k6, N6, rfl, hl6, hN6, y6, b6⟩ := hP.open
    have R6 := hid (R5.out.kept b6)
    have P6 := hid (P5.out.then (by simpa only [List.append_assoc, List.nil_append] using hP))
    have hX6 : N6 ≤ N5 + 30 := by have := encText_le an (by omega); rw [hN6]; rw [HX5.out]; omega
    have HX6 := hid hl6
    have HY6 := hid y6
    clear hP c0 c1 c2 c3 c4 c5 c6 c7 c8 hN6 hl6 b6 y6
    obtain ⟨c0, c1, c2, c3, c4, c5, c6, c7, c8⟩ := R6.out.all
    go_wp2_with fail
    refine (text_any A6 _ bn N6 k6 HX6.out (by omega) (by omega) w6 HY6.out).mono ?_
    rintro er w7 hP
    obtain ⟨A7, k7, N7, rfl, hl7, hN7, y7, b7⟩ := hP.open
    have R7 := hid (R6.out.kept b7)
    have P7 := hid (P6.out.then (by simpa only [List.append_assoc, List.nil_append] using hP))
    have hX7 : N7 ≤ N6 + 30 := by have := encText_le bn (by omega); rw [hN7]; rw [HX6.out]; omega
    have HX7 := hid hl7
    have HY7 := hid y7
    clear hP c0 c1 c2 c3 c4 c5 c6 c7 c8 hN7 hl7 b7 y7
    obtain ⟨c0, c1, c2, c3, c4, c5, c6, c7, c8⟩ := R7.out.all
    go_wp2
    go_ret
    have hh := P7.out
    unfold putC
    rw [putBody_3 rfl]
    simp only [List.append_assoc] at hh ⊢
    exact hh
  · go_wp2_with fail
    refine (withRole_any A5 _ ao an N5 k5 HX5.out (by omega) (by omega) w5 HY5.out).mono ?_
    rintro er w6 hP
    obtain ⟨A6, k6, N6, rfl, hl6, hN6, y6, b6⟩ := hP.open
    have R6 := hid (R5.out.kept b6)
    have RAW : Hid (Puts w5 w6 (.returned (.slice A6 N6 k6)) ([] ++ (enc d.toNat ++ (enc q.toNat ++ (encText nm ++ enc (Int.toNat 4))))) (putR ao an)) := hid (by simpa only [List.append_assoc, List.nil_append] using hP)
    have P6 := hid (P5.out.then (by simpa only [List.append_assoc, List.nil_append] using hP))
    have hX6 : N6 ≤ N5 + 30 := by have := putR_le ao an (by omega); rw [hN6]; rw [HX5.out]; omega
    have HX6 := hid hl6
    have HY6 := hid y6
    clear hP c0 c1 c2 c3 c4 c5 c6 c7 c8 hN6 hl6 b6 y6
    obtain ⟨c0, c1, c2, c3, c4, c5, c6, c7, c8⟩ := R6.out.all
    obtain ⟨w7, hw7⟩ : ∃ w7, w7 = (w6.setCell ⟨w.heap.size, 5, none⟩ (.string bo)).setCell ⟨w.heap.size, 6, none⟩ (.string bn) := ⟨_, rfl⟩
    have f5 := R6.out.f 5
    have f6 := R6.out.f 6
    obtain ⟨hP7, hY7⟩ := Puts.poke P5.out.bel RAW.out (hw7 ▸ (grown_set w6 w.heap.size 5 (.string bo)).trans (grown_set _ w.heap.size 6 (.string bn))) (Nat.le_refl _) (R5.out.lt)
    have P7 := hid hP7
    have HY7 := hid (hY7 _ _ _ rfl)
    have R7 : Hid (CrAt w7 w.heap.size ⟨d, q, nm, 4, wh, bo, bn, bo, bn⟩) := by rw [hw7]; exact hid ((R6.out.set5 bo).set6 bn)
    clear hP7 hY7
    go_wp2_with fail
    rw [← hw7]
    clear hw7 c0 c1 c2 c3 c4 c5 c6 c7 c8 f5 f6
    have HX7 : Hid (([] ++ (enc d.toNat ++ (enc q.toNat ++ (encText nm ++ enc (Int.toNat 4)))) ++ putR ao an).length = N6) := hid (by have := HX6.out; simpa only [List.append_assoc, List.nil_append] using this)
    refine (withRole_any A6 _ bo bn N6 k6 HX7.out (by omega) (by omega) w7 HY7.out).mono ?_
    rintro er w8 hP
    obtain ⟨A8, k8, N8, rfl, hl8, hN8, y8, b8⟩ := hP.open
    have P8 := hid (P7.out.then (by simpa only [List.append_assoc, List.nil_append] using hP))
    clear hP hl8 hN8 y8 b8
    go_wp2
    go_ret
    have hh := P8.out
    unfold putC
    rw [putBody_4 rfl]
    simp only [List.append_assoc] at hh ⊢
    exact hh

theorem sls_two {w : World} {A1 A2 : Option Addr} {n1 n2 c1 c2 : Nat} {l1 l2 : List UInt8} (t : TypeId) (h1 : Byt w w.heap.size A1 l1) (e1 : l1.length = n1) (h2 : Byt w w.heap.size A2 l2) (e2 : l2.length = n2) :
    Sls (w.alloc (.cells #[.slice A1 n1 c1, .slice A2 n2 c2] t)) (w.alloc (.cells #[.slice A1 n1 c1, .slice A2 n2 c2] t)).heap.size (some ⟨w.heap.size, 0, none⟩) [⟨A1, n1, c1, l1⟩, ⟨A2, n2, c2, l2⟩] := fun _ => by
  have b := (Below.refl w.heap.size w).alloc (Nat.le_refl _) (.cells #[.slice A1 n1 c1, .slice A2 n2 c2] t)
  refine ⟨_, rfl, by rw [World.size_alloc]; exact Nat.lt_succ_self _, fun j s hj => ?_⟩
  have hc : ∀ k v, #[Value.slice A1 n1 c1, .slice A2 n2 c2].toList[k]? = some v → (w.alloc (.cells #[.slice A1 n1 c1, .slice A2 n2 c2] t)).cell? (Addr.add ⟨w.heap.size, 0, none⟩ k) = some v := World.news_of_block (heap_alloc_new w _)
  match j, hj with
  | 0, hj => injection hj with hj; subst hj; exact ⟨hc 0 _ rfl, e1, (h1.below b).more b.size⟩
  | 1, hj => injection hj with hj; subst hj; exact ⟨hc 1 _ rfl, e2, (h2.below b).more b.size⟩
theorem cat_two (a b : Sl) : sumN [a, b] = a.n + b.n ∧ catL [a, b] = a.l ++ b.l := by simp [sumN, catL]

theorem putC_le1000 (c : Crd) (h : mayC c = true) : (putC c).length ≤ 1000 := by
  obtain ⟨g1, g2, g3, g4, _⟩ := may_head h
  obtain ⟨m1, m2, m3, m4, m5, m6⟩ := may_sizes h
  have e1 := enc_len_le (n := c.d.toNat) (by omega)
  have e2 := enc_len_le (n := c.q.toNat) (by omega)
  have e3 := encText_le c.nm m1
  have hk := may_kind h
  have e4 := enc_len_le (n := c.kd.toNat) (by rcases hk with k | k | k | k <;> omega)
  have e5 : (putBody c).length ≤ 100 := by
    rcases hk with ⟨k, -⟩ | ⟨k, -⟩ | ⟨k, -⟩ | ⟨k, -⟩
    · rw [putBody_1 k]; have := encText_le c.wh m2; omega
    · rw [putBody_2 k]; have := putR_le c.ao c.an m4; omega
    · rw [putBody_3 k, List.length_append]; have := encText_le c.an m4; have := encText_le c.bn m6; omega
    · rw [putBody_4 k, List.length_append]; have := putR_le c.ao c.an m4; have := putR_le c.bo c.bn m6; omega
  unfold putC
  simp only [List.length_append]
  omega
set_option maxHeartbeats 2000000 in
theorem putC_any (A : Option Addr) (l : List UInt8) (cr : Crd) (n c : Nat) (hn : l.length = n) (hL : n ≤ 1099511600000) (w : World) (hb : Byt w w.heap.size A l) :
    Calls Tryd.prog 18 #[.slice A n c, .agg cr.cells.toArray] w fun e w' => PutsE w w' e l cr := by
  obtain ⟨b, hbm⟩ : ∃ b, mayC cr = b := ⟨_, rfl⟩
  have HM := hid (fun w => hbm ▸ mayC_any cr w)
  obtain ⟨w0, hw0⟩ : ∃ w0, w0 = w.alloc (.cells cr.cells.toArray 27) := ⟨_, rfl⟩
  have R0 : Hid (CrAt w0 w.heap.size cr) := by rw [hw0]; exact hid (CrAt.new w cr)
  have B0 : Hid (Below w.heap.size w w0) := by rw [hw0]; exact hid (below_cr w cr)
  have HB := hid hbm
  have HE : Hid (∀ W, b = true → Calls Tryd.prog 46 #[.agg cr.cells.toArray] W fun e w' => Puts W w' e [] (putC cr)) := hid (fun W e => encoded_any cr (hbm.trans e) W)
  have HL : Hid (b = true → (putC cr).length ≤ 1000) := hid (fun e => putC_le1000 cr (hbm.trans e))
  have HN := hid hn
  have HYB := hid hb
  clear hbm hn hb
  obtain ⟨K, hK⟩ : ∃ K, putC cr = K := ⟨_, rfl⟩
  rw [hK] at HE HL
  have HK := hid hK
  clear hK
  obtain ⟨d, q, nm, kd, wh, ao, an, bo, bn⟩ := cr
  unfold Crd.cells at hw0 HM HE ⊢
  simp only at hw0 HM HE ⊢
  obtain ⟨c0, c1, c2, c3, c4, c5, c6, c7, c8⟩ := R0.out.all
  go_enter Tryd.func18, Tryd.ntmps18
  rw [hw0] at c0 c1 c2 c3 c4 c5 c6 c7 c8
  go_wp2_with fail
  rw [← hw0] at c0 c1 c2 c3 c4 c5 c6 c7 c8 ⊢
  clear hw0
  refine (HM.out w0).mono ?_
  rintro er w1 ⟨rfl, bb⟩
  have R1 := hid (R0.out.kept bb)
  have B1 := hid (B0.out.trans (bb.mono B0.out.size))
  clear bb c0 c1 c2 c3 c4 c5 c6 c7 c8
  cases b with
  | false =>
    go_wp2
    go_ret2
    exact .inl ⟨HB.out, rfl, B1.out⟩
  | true =>
    obtain ⟨c0, c1, c2, c3, c4, c5, c6, c7, c8⟩ := R1.out.all
    go_wp2_with fail
    refine (HE.out w1 (by trivial)).mono ?_
    rintro er w2 hP
    obtain ⟨A2, k2, N2, rfl, hl2, hN2, y2, b2⟩ := hP.open
    have B2 := hid (B1.out.trans (b2.mono B1.out.size))
    have hY := (HYB.out.below B2.out).more B2.out.size
    have hX2 : N2 ≤ 1000 := by have := HL.out (by trivial); rw [← hl2]; simpa using this
    have HSL := hid (sls_two (c1 := c) (c2 := k2) 34 hY HN.out y2 hl2)
    have HS := hid (cat_two ⟨A, n, c, l⟩ ⟨A2, N2, k2, [] ++ K⟩)
    simp only at HS
    have HCC := hid (concat_any (some ⟨w2.heap.size, 0, none⟩) [⟨A, n, c, l⟩, ⟨A2, N2, k2, [] ++ K⟩] 2 2 rfl (by omega) (by rw [HS.out.1]; omega) _ HSL.out)
    rw [HS.out.1, HS.out.2] at HCC
    have HN2 : Hid (n + N2 = l.length + K.length) := hid (by rw [HN.out, ← hl2]; simp)
    clear hP hl2 hN2 b2 y2 hY c0 c1 c2 c3 c4 c5 c6 c7 c8
    obtain ⟨T, hT⟩ : ∃ T, n + N2 = T := ⟨_, rfl⟩
    rw [hT] at HCC HN2
    have HX := hid hT
    clear hT
    go_wp2_with fail
    refine HCC.out.mono ?_
    rintro er w3 ⟨A3, c3, rfl, o3, b3⟩
    have B3 := hid ((B2.out.alloc B2.out.size _).trans (b3.mono (by rw [World.size_alloc]; exact Nat.le_succ_of_le B2.out.size)))
    have O3 := hid o3
    have q1 := OwnB.cap o3
    have q2 := OwnB.cap_max o3
    clear o3 b3
    go_wp2
    go_ret2
    refine .inr ⟨HB.out, A3, T, c3, rfl, A3, c3, T, rfl, by rw [HN2.out, HK.out], q1, q2, ?_, B3.out⟩
    rw [HK.out]
    have := O3.out.mono (show w.heap.size ≤ _ by rw [World.size_alloc]; exact Nat.le_succ_of_le B2.out.size)
    simpa using this

end Go.Proofs.YtkggagnaiiemlaaDoor.Sh
