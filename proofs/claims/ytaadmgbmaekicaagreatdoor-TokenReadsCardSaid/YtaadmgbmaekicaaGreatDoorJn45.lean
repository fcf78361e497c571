/-
  The document's example of layer 12 holds: lives, by contract. Written by mk_tklives.py.
-/
import Derived.Test.YtaadmgbmaekicaaGreatDoorJn43
import Derived.Test.YtaadmgbmaekicaaGreatDoorJn44
set_option linter.unusedVariables false
set_option linter.unusedSimpArgs false
namespace Go.Proofs.YtaadmgbmaekicaaGreatDoor.Sh
open Go Go.RowKit

set_option linter.unusedSimpArgs false
set_option linter.unusedVariables false
theorem kcv (w : World) (C : Array Value) (n c : Nat) : (convert 22 22 (.slice (some ⟨w.heap.size, 0, none⟩) n c)).run Tryz.prog (w.alloc (.cells C 5)) = .ok (.slice (some ⟨w.heap.size, 0, none⟩) n c) (w.alloc (.cells C 5 (C.size, C.size + 1))) :=
  Lib.run_convert_bytes_const (P := Tryz.prog) w 22 5 C n c Tryz.underlying22 Tryz.underlying5
theorem byt_one (w : World) (x : UInt8) (z : Int) (hz : z = (x.toNat : Int)) (fr : Nat × Nat) : Byt (w.alloc (.cells #[.int .u8 z] 5 fr)) (w.alloc (.cells #[.int .u8 z] 5 fr)).heap.size (some ⟨w.heap.size, 0, none⟩) [x] := fun _ => by
  refine ⟨_, rfl, by rw [World.size_alloc]; exact Nat.lt_succ_self _, fun j y hy => ?_⟩
  have hj : j = 0 := by have := (List.getElem?_eq_some_iff.1 hy).1; simpa using this
  subst hj
  simp only [List.getElem?_cons_zero, Option.some.injEq] at hy
  subst hy
  rw [add_zero, cell_of_row _ _ 0 _ _ fr (heap_alloc_new w _), hz]
  rfl
theorem els_roles2 (w : World) (a b c d : ByteArray) : ElsQ encR (w.alloc (.cells #[.string a, .string b, .string c, .string d] 69)) (fun _ => True) (some ⟨w.heap.size, 0, none⟩) [(a, b), (c, d)] := fun h => by
  obtain ⟨ad, e, hb, hc⟩ := RowE.els (E := encR) (tl := []) (T := 69) (l := [(a, b), (c, d)]) (heap_alloc_new w (.cells #[.string a, .string b, .string c, .string d] 69)) h
  exact ⟨ad, e, trivial, hb, hc⟩
theorem els_roles1 (w : World) (a b : ByteArray) : ElsQ encR (w.alloc (.cells #[.string a, .string b] 69)) (fun _ => True) (some ⟨w.heap.size, 0, none⟩) [(a, b)] := fun h => by
  obtain ⟨ad, e, hb, hc⟩ := RowE.els (E := encR) (tl := []) (T := 69) (l := [(a, b)]) (heap_alloc_new w (.cells #[.string a, .string b] 69)) h
  exact ⟨ad, e, trivial, hb, hc⟩
theorem named12 {P : Nat → Prop} {g : Nat} (h : P g) : ∃ x, x = g ∧ P x := ⟨g, rfl, h⟩
attribute [local irreducible] sha hmac lX lY lV
set_option maxHeartbeats 32000000 in
set_option maxRecDepth 100000 in
theorem lives12_any : Lives12 := by
  intro w hT
  have hkc := kcv
  obtain ⟨w2, hw2⟩ : ∃ y, y = (w.alloc (.cells #[.string ⟨#[100, 49]⟩, .string ⟨#[97]⟩] 69)).alloc (.cells #[.string ⟨#[100, 49]⟩, .string ⟨#[98]⟩] 69) := ⟨_, rfl⟩
  have HB2 : Hid (Below w.heap.size w w2) := hid (by rw [hw2]; exact below_alloc2 w _ _)
  have HA2 : Hid (RoleAt w2 w.heap.size ⟨#[100, 49]⟩ ⟨#[97]⟩) := hid (by rw [hw2]; exact (RoleAt.new w _ _).kept ((Below.refl _ _).alloc (Nat.le_refl _) _))
  have HR2 : Hid (RoleAt w2 (w.heap.size + 1) ⟨#[100, 49]⟩ ⟨#[98]⟩) := hid (by
    rw [hw2]
    have q := RoleAt.new (w.alloc (.cells #[.string ⟨#[100, 49]⟩, .string ⟨#[97]⟩] 69)) ⟨#[100, 49]⟩ ⟨#[98]⟩
    rw [World.size_alloc] at q
    exact q)
  have HTT := hid (fun W (hW : Below w.heap.size w W) => hT.below hT.pos hW)
  have HW2 := hid hw2
  obtain ⟨w3, hw3⟩ : ∃ y, y = w2.alloc (.cells #[.int .u8 107] 5 (1, 2)) := ⟨_, rfl⟩
  obtain ⟨w4, hw4⟩ : ∃ y, y = w3.alloc (.cells #[.string ⟨#[100, 49]⟩, .string ⟨#[97]⟩, .string ⟨#[100, 49]⟩, .string ⟨#[98]⟩] 69) := ⟨_, rfl⟩
  have hb3 : Below w2.heap.size w2 w3 := by rw [hw3]; exact (Below.refl _ _).alloc (Nat.le_refl _) _
  have hb4 : Below w3.heap.size w3 w4 := by rw [hw4]; exact (Below.refl _ _).alloc (Nat.le_refl _) _
  have hs3 : w3.heap.size = w2.heap.size + 1 := by rw [hw3]; simp
  have hy3 : Byt w3 w3.heap.size (some ⟨w2.heap.size, 0, none⟩) lK := by rw [hw3]; exact byt_one w2 107 107 rfl (1, 2)
  have HB24 : Hid (Below w2.heap.size w2 w4) := hid (hb3.trans (hb4.mono hb3.size))
  have HB4 := hid (HB2.out.trans (HB24.out.mono HB2.out.size))
  have HT4 : TokAt w4 (fun _ => True) ⟨1, 1, 1, ⟨#[97, 110, 110]⟩, some ⟨w2.heap.size + 1, 0, none⟩, 2, 2, 40, none, 0, 0, none, 0, 0, none, 0, 0⟩ lT0 := by
    refine ⟨rfl, rfl, rfl, rfl, rfl, rfl, Nat.le_refl _, by show (2 : Nat) ≤ _; omega, ?_, rfl, Nat.le_refl _, by show (0 : Nat) ≤ _; omega, ElsQ.nil, rfl, Nat.le_refl _, by show (0 : Nat) ≤ _; omega, CavsQ.nil, rfl, Nat.le_refl _, by show (0 : Nat) ≤ _; omega, fun h => absurd h (by simp [lT0])⟩
    rw [hw4, ← hs3]
    exact els_roles2 w3 _ _ _ _
  have HM4 := hid (pMint12_any (HTT.out w4 HB4.out) HT4 ⟨by simp [lT0], by simp [lT0], by simp [lT0], by simp [lT0], by simp [lT0]⟩ (some ⟨w2.heap.size, 0, none⟩) lK 1 1 rfl (by omega) (Nat.le_refl _) (by omega) ((hy3.below hb4).more hb4.size))
  rw [l_mintE, l_mintR] at HM4
  have HW3 := hid hw3
  have HW4 := hid hw4
  have HA4 := hid (HA2.out.kept HB24.out)
  have HR4 := hid (HR2.out.kept HB24.out)
  have k0 := HA2.out.c0
  have k1 := HA2.out.c1
  have k2 := HR2.out.c0
  have k3 := HR2.out.c1
  have b30 := (HA2.out.kept hb3).c0
  have b31 := (HA2.out.kept hb3).c1
  have b32 := (HR2.out.kept hb3).c0
  have b33 := (HR2.out.kept hb3).c1
  rw [hw3] at b30 b31 b32 b33
  clear hT hw2 hw3 hw4 hb3 hb4 hs3 hy3 HT4
  go_enter Tryz.func12, Tryz.ntmps12
  go_upto_region 3 with fail
  rw [← HW2.out]
  go_wp2_with fail
  rw [← HW3.out, ← HW4.out]
  refine HM4.out.mono ?_
  rintro er w5 ⟨⟨d3, e3, m3, who3, rA3, rn3, rc3, til3, sA3, sn3, sc3, cA3, cn3, cc3, tA3, tn3, tc3⟩, rfl, nt⟩
  unfold TH.cells
  simp only
  have HN5 := hid nt.at_
  have HB5 := hid (HB4.out.trans (nt.below.mono HB4.out.size))
  obtain ⟨w6, hw6⟩ : ∃ y, y = w5.alloc (.cells #[.int .i64 d3, .int .i64 e3, .int .i64 m3, .string who3, .slice rA3 rn3 rc3, .int .i64 til3, .slice sA3 sn3 sc3, .slice cA3 cn3 cc3, .slice tA3 tn3 tc3] 27) := ⟨_, rfl⟩
  have hb6 : Below w5.heap.size w5 w6 := by rw [hw6]; exact (Below.refl _ _).alloc (Nat.le_refl _) _
  have HX6 : Hid (ThAt w6 w5.heap.size ⟨d3, e3, m3, who3, rA3, rn3, rc3, til3, sA3, sn3, sc3, cA3, cn3, cc3, tA3, tn3, tc3⟩) := hid (by rw [hw6]; exact ThAt.new w5 ⟨d3, e3, m3, who3, rA3, rn3, rc3, til3, sA3, sn3, sc3, cA3, cn3, cc3, tA3, tn3, tc3⟩)
  have HB6 := hid (HB5.out.trans (hb6.mono HB5.out.size))
  have HA6 := hid ((HA4.out.kept nt.below).kept hb6)
  have HR6 := hid ((HR4.out.kept nt.below).kept hb6)
  have HN6 := hid (HN5.out.below hb6)
  have HW6 := hid hw6
  clear nt hw6 hb6 k0 k1 k2 k3 b30 b31 b32 b33
  go_upto_region 4 with fail
  rw [← HW6.out]
  obtain ⟨gT, hgT, HX6⟩ := named12 (P := fun g => Hid (ThAt w6 g ⟨d3, e3, m3, who3, rA3, rn3, rc3, til3, sA3, sn3, sc3, cA3, cn3, cc3, tA3, tn3, tc3⟩)) HX6
  rw [← hgT]
  clear hgT
  obtain ⟨w7, hw7⟩ : ∃ y, y = w6.alloc (.cells #[.string ⟨#[100, 49]⟩, .string ⟨#[98]⟩] 69) := ⟨_, rfl⟩
  have hb7 : Below w6.heap.size w6 w7 := by rw [hw7]; exact (Below.refl _ _).alloc (Nat.le_refl _) _
  have HB7 := hid (HB6.out.trans (hb7.mono HB6.out.size))
  have hca : CavAt w7 (fun _ => True) ⟨1, some ⟨w6.heap.size, 0, none⟩, 1, 1, 0, ⟨#[]⟩⟩ lC1 := ⟨rfl, rfl, rfl, rfl, Nat.le_refl _, by show (1 : Nat) ≤ _; omega, by rw [hw7]; exact els_roles1 w6 _ _⟩
  have HNA := hid (pNarrow12_any (HTT.out w7 HB7.out) (HN6.out.below hb7) (FewTok.ok lokX) hca (by simp [lC1]))
  rw [l_narE1, l_narR1] at HNA
  have HX7 := hid (HX6.out.below hb7)
  have HA7 := hid (HA6.out.kept hb7)
  have HR7 := hid (HR6.out.kept hb7)
  have HW7 := hid hw7
  obtain ⟨c0, c1, c2, c3, c4, c5, c6, c7, c8⟩ := HX6.out.all
  have k2 := HR6.out.c0
  have k3 := HR6.out.c1
  simp only at c0 c1 c2 c3 c4 c5 c6 c7 c8 HNA
  clear hw7 hb7 hca
  go_wp2_with fail
  rw [← HW7.out]
  refine HNA.out.mono ?_
  rintro er w8 ⟨⟨d5, e5, m5, who5, rA5, rn5, rc5, til5, sA5, sn5, sc5, cA5, cn5, cc5, tA5, tn5, tc5⟩, rfl, nt⟩
  unfold TH.cells
  simp only
  have HN8 := hid nt.at_
  have HB8 := hid (HB7.out.trans (nt.below.mono HB7.out.size))
  obtain ⟨w9, hw9⟩ : ∃ y, y = w8.alloc (.cells #[.int .i64 d5, .int .i64 e5, .int .i64 m5, .string who5, .slice rA5 rn5 rc5, .int .i64 til5, .slice sA5 sn5 sc5, .slice cA5 cn5 cc5, .slice tA5 tn5 tc5] 27) := ⟨_, rfl⟩
  have hb9 : Below w8.heap.size w8 w9 := by rw [hw9]; exact (Below.refl _ _).alloc (Nat.le_refl _) _
  have HX9 : Hid (ThAt w9 w8.heap.size ⟨d5, e5, m5, who5, rA5, rn5, rc5, til5, sA5, sn5, sc5, cA5, cn5, cc5, tA5, tn5, tc5⟩) := hid (by rw [hw9]; exact ThAt.new w8 ⟨d5, e5, m5, who5, rA5, rn5, rc5, til5, sA5, sn5, sc5, cA5, cn5, cc5, tA5, tn5, tc5⟩)
  have HB9 := hid (HB8.out.trans (hb9.mono HB8.out.size))
  have HA9 := hid ((HA7.out.kept nt.below).kept hb9)
  have HR9 := hid ((HR7.out.kept nt.below).kept hb9)
  have HN9 := hid (HN8.out.below hb9)
  have HW9 := hid hw9
  clear nt hw9 hb9 c0 c1 c2 c3 c4 c5 c6 c7 c8 k2 k3
  go_upto_region 5 with fail
  rw [← HW9.out]
  obtain ⟨gU, hgU, HX9⟩ := named12 (P := fun g => Hid (ThAt w9 g ⟨d5, e5, m5, who5, rA5, rn5, rc5, til5, sA5, sn5, sc5, cA5, cn5, cc5, tA5, tn5, tc5⟩)) HX9
  rw [← hgU]
  clear hgU
  have hca : CavAt w9 (fun _ => True) ⟨2, none, 0, 0, 30, ⟨#[]⟩⟩ lC2 := ⟨rfl, rfl, rfl, rfl, Nat.le_refl _, by show (0 : Nat) ≤ _; omega, ElsQ.nil⟩
  have HNB := hid (pNarrow12_any (HTT.out w9 HB9.out) HN9.out (FewTok.ok lokY) hca (by simp [lC2]))
  rw [l_narE2, l_narR2] at HNB
  obtain ⟨c0, c1, c2, c3, c4, c5, c6, c7, c8⟩ := HX9.out.all
  simp only at c0 c1 c2 c3 c4 c5 c6 c7 c8 HNB
  clear hca
  go_wp2_with fail
  refine HNB.out.mono ?_
  rintro er w10 ⟨⟨d7, e7, m7, who7, rA7, rn7, rc7, til7, sA7, sn7, sc7, cA7, cn7, cc7, tA7, tn7, tc7⟩, rfl, nt⟩
  unfold TH.cells
  simp only
  have HN10 := hid nt.at_
  have HB10 := hid (HB9.out.trans (nt.below.mono HB9.out.size))
  obtain ⟨w11, hw11⟩ : ∃ y, y = w10.alloc (.cells #[.int .i64 d7, .int .i64 e7, .int .i64 m7, .string who7, .slice rA7 rn7 rc7, .int .i64 til7, .slice sA7 sn7 sc7, .slice cA7 cn7 cc7, .slice tA7 tn7 tc7] 27) := ⟨_, rfl⟩
  have hb11 : Below w10.heap.size w10 w11 := by rw [hw11]; exact (Below.refl _ _).alloc (Nat.le_refl _) _
  have HX11 : Hid (ThAt w11 w10.heap.size ⟨d7, e7, m7, who7, rA7, rn7, rc7, til7, sA7, sn7, sc7, cA7, cn7, cc7, tA7, tn7, tc7⟩) := hid (by rw [hw11]; exact ThAt.new w10 ⟨d7, e7, m7, who7, rA7, rn7, rc7, til7, sA7, sn7, sc7, cA7, cn7, cc7, tA7, tn7, tc7⟩)
  have HB11 := hid (HB10.out.trans (hb11.mono HB10.out.size))
  have HA11 := hid ((HA9.out.kept nt.below).kept hb11)
  have HR11 := hid ((HR9.out.kept nt.below).kept hb11)
  have HV11 := hid (HN10.out.below hb11)
  have HU11 := hid ((HN9.out.below nt.below).below hb11)
  have HY11 := hid ((HX9.out.below nt.below).below hb11)
  have HW11 := hid hw11
  clear nt hw11 hb11 c0 c1 c2 c3 c4 c5 c6 c7 c8
  go_upto_region 6 with fail
  rw [← HW11.out]
  obtain ⟨gV, hgV, HX11⟩ := named12 (P := fun g => Hid (ThAt w11 g ⟨d7, e7, m7, who7, rA7, rn7, rc7, til7, sA7, sn7, sc7, cA7, cn7, cc7, tA7, tn7, tc7⟩)) HX11
  rw [← hgV]
  clear hgV
  have HRO := hid (pRoles12_any HV11.out (FewTok.ok lokV))
  rw [l_rolesV] at HRO
  obtain ⟨c0, c1, c2, c3, c4, c5, c6, c7, c8⟩ := HX11.out.all
  simp only at c0 c1 c2 c3 c4 c5 c6 c7 c8 HRO
  go_wp2_with fail
  refine HRO.out.mono ?_
  rintro er w12 ⟨AL, nL, cL, rfl, hL1, hL2, hL3, hL4, hL5, b12⟩
  obtain rfl : nL = 1 := hL3.symm
  obtain ⟨gL, rfl, -, hg2, csL, hrow, -⟩ := hL5 (by omega)
  obtain ⟨bl, e1, -, hbl, hcl⟩ := hL4 (by simp)
  obtain rfl := Option.some.inj e1
  have z0 : w12.cell? ⟨gL, 0, none⟩ = some (.string ⟨#[100, 49]⟩) := by have q := hcl 0 _ rfl; rwa [add_zero] at q
  have z1 : w12.cell? ⟨gL, 1, none⟩ = some (.string ⟨#[98]⟩) := by have q := hcl 1 _ rfl; rwa [addr_rowE] at q
  have HGL : Hid (gL < w12.heap.size) := hid hg2
  have HB12 := hid (HB11.out.trans (b12.mono HB11.out.size))
  have HX12 := hid (HX11.out.below b12)
  have HY12 := hid (HY11.out.below b12)
  have HA12 := hid (HA11.out.kept b12)
  have HR12 := hid (HR11.out.kept b12)
  have HV12 := hid (HV11.out.below b12)
  have HU12 := hid (HU11.out.below b12)
  have HS : Hid (∀ W, Below w12.heap.size w12 W → (W.cell? ⟨gU, 0, none⟩ = some (.int .i64 d5) ∧ W.cell? ⟨gU, 1, none⟩ = some (.int .i64 e5) ∧ W.cell? ⟨gU, 2, none⟩ = some (.int .i64 m5) ∧ W.cell? ⟨gU, 3, none⟩ = some (.string who5) ∧ W.cell? ⟨gU, 4, none⟩ = some (.slice rA5 rn5 rc5) ∧ W.cell? ⟨gU, 5, none⟩ = some (.int .i64 til5) ∧ W.cell? ⟨gU, 6, none⟩ = some (.slice sA5 sn5 sc5) ∧ W.cell? ⟨gU, 7, none⟩ = some (.slice cA5 cn5 cc5) ∧ W.cell? ⟨gU, 8, none⟩ = some (.slice tA5 tn5 tc5) ∧ W.cell? ⟨gV, 0, none⟩ = some (.int .i64 d7) ∧ W.cell? ⟨gV, 1, none⟩ = some (.int .i64 e7) ∧ W.cell? ⟨gV, 2, none⟩ = some (.int .i64 m7) ∧ W.cell? ⟨gV, 3, none⟩ = some (.string who7) ∧ W.cell? ⟨gV, 4, none⟩ = some (.slice rA7 rn7 rc7) ∧ W.cell? ⟨gV, 5, none⟩ = some (.int .i64 til7) ∧ W.cell? ⟨gV, 6, none⟩ = some (.slice sA7 sn7 sc7) ∧ W.cell? ⟨gV, 7, none⟩ = some (.slice cA7 cn7 cc7) ∧ W.cell? ⟨gV, 8, none⟩ = some (.slice tA7 tn7 tc7) ∧ W.cell? ⟨w.heap.size, 0, none⟩ = some (.string ⟨#[100, 49]⟩) ∧ W.cell? ⟨w.heap.size, 1, none⟩ = some (.string ⟨#[97]⟩) ∧ W.cell? ⟨w.heap.size + 1, 0, none⟩ = some (.string ⟨#[100, 49]⟩) ∧ W.cell? ⟨w.heap.size + 1, 1, none⟩ = some (.string ⟨#[98]⟩) ∧ W.cell? ⟨gL, 0, none⟩ = some (.string ⟨#[100, 49]⟩) ∧ W.cell? ⟨gL, 1, none⟩ = some (.string ⟨#[98]⟩))) := hid (fun W hW => by
    obtain ⟨u0, u1, u2, u3, u4, u5, u6, u7, u8⟩ := (HY12.out.below hW).all
    obtain ⟨v0, v1, v2, v3, v4, v5, v6, v7, v8⟩ := (HX12.out.below hW).all
    exact ⟨u0, u1, u2, u3, u4, u5, u6, u7, u8, v0, v1, v2, v3, v4, v5, v6, v7, v8, (HA12.out.kept hW).c0, (HA12.out.kept hW).c1, (HR12.out.kept hW).c0, (HR12.out.kept hW).c1, (hW.cell (p := ⟨gL, 0, none⟩) HGL.out).trans z0, (hW.cell (p := ⟨gL, 1, none⟩) HGL.out).trans z1⟩)
  have HAL1 : Hid (∀ W, Below w12.heap.size w12 W → Calls Tryz.prog 39 #[.agg #[.int .i64 d5, .int .i64 e5, .int .i64 m5, .string who5, .slice rA5 rn5 rc5, .int .i64 til5, .slice sA5 sn5 sc5, .slice cA5 cn5 cc5, .slice tA5 tn5 tc5], .agg #[.string ⟨#[100, 49]⟩, .string ⟨#[97]⟩], .string ⟨#[]⟩, .int .i64 1] W fun e w' => e = .returned (.int .i64 23) ∧ Below W.heap.size W w') := hid (fun W hW => by
    have q := pAllows12_any (HU12.out.below hW) (FewTok.ok lokY) lD1 lA E0 1
    rw [l_allow1] at q
    exact q)
  have HUN : Hid (∀ W, Below w12.heap.size w12 W → Calls Tryz.prog 40 #[.agg #[.int .i64 d7, .int .i64 e7, .int .i64 m7, .string who7, .slice rA7 rn7 rc7, .int .i64 til7, .slice sA7 sn7 sc7, .slice cA7 cn7 cc7, .slice tA7 tn7 tc7]] W fun e w' => e = .returned (.int .i64 30) ∧ Below W.heap.size W w') := hid (fun W hW => by
    have q := pUntil12_any (HV12.out.below hW) (FewTok.ok lokV)
    rw [l_untilV] at q
    exact q)
  have HAL2 : Hid (∀ W, Below w12.heap.size w12 W → Calls Tryz.prog 39 #[.agg #[.int .i64 d7, .int .i64 e7, .int .i64 m7, .string who7, .slice rA7 rn7 rc7, .int .i64 til7, .slice sA7 sn7 sc7, .slice cA7 cn7 cc7, .slice tA7 tn7 tc7], .agg #[.string ⟨#[100, 49]⟩, .string ⟨#[98]⟩], .string ⟨#[]⟩, .int .i64 30] W fun e w' => e = .returned (.int .i64 21) ∧ Below W.heap.size W w') := hid (fun W hW => by
    have q := pAllows12_any (HV12.out.below hW) (FewTok.ok lokV) lD1 lB E0 30
    rw [l_allow2] at q
    exact q)
  have HAL3 : Hid (∀ W, Below w12.heap.size w12 W → Calls Tryz.prog 39 #[.agg #[.int .i64 d7, .int .i64 e7, .int .i64 m7, .string who7, .slice rA7 rn7 rc7, .int .i64 til7, .slice sA7 sn7 sc7, .slice cA7 cn7 cc7, .slice tA7 tn7 tc7], .agg #[.string ⟨#[100, 49]⟩, .string ⟨#[98]⟩], .string ⟨#[]⟩, .int .i64 29] W fun e w' => e = .returned (.int .i64 0) ∧ Below W.heap.size W w') := hid (fun W hW => by
    have q := pAllows12_any (HV12.out.below hW) (FewTok.ok lokV) lD1 lB E0 29
    rw [l_allow3] at q
    exact q)
  have HVE1 : Hid (∀ W, Below w12.heap.size w12 W → Calls Tryz.prog 41 #[.slice (some ⟨W.heap.size, 0, none⟩) 1 1, .agg #[.int .i64 d7, .int .i64 e7, .int .i64 m7, .string who7, .slice rA7 rn7 rc7, .int .i64 til7, .slice sA7 sn7 sc7, .slice cA7 cn7 cc7, .slice tA7 tn7 tc7]] (W.alloc (.cells #[.int .u8 107] 5 (1, 2))) fun e w' => e = .returned (.int .i64 0) ∧ Below W.heap.size W w') := hid (fun W hW => by
    have hb : Below W.heap.size W (W.alloc (.cells #[.int .u8 107] 5 (1, 2))) := (Below.refl _ _).alloc (Nat.le_refl _) _
    have hb2 := hW.trans (hb.mono hW.size)
    have q := pVerify12_any (HTT.out _ (HB12.out.trans (hb2.mono HB12.out.size))) (HV12.out.below hb2) (FewTok.ok lokV) (some ⟨W.heap.size, 0, none⟩) lK 1 1 rfl (by omega) (Nat.le_refl _) (by omega) (byt_one W 107 107 rfl (1, 2))
    rw [l_ver1] at q
    exact q.mono fun e w' ⟨h1, h2⟩ => ⟨h1, hb.trans (h2.mono hb.size)⟩)
  have HVE2 : Hid (∀ W, Below w12.heap.size w12 W → Calls Tryz.prog 41 #[.slice (some ⟨W.heap.size, 0, none⟩) 1 1, .agg #[.int .i64 d7, .int .i64 e7, .int .i64 m7, .string who7, .slice rA7 rn7 rc7, .int .i64 til7, .slice sA7 sn7 sc7, .slice cA7 cn7 cc7, .slice tA7 tn7 tc7]] (W.alloc (.cells #[.int .u8 108] 5 (1, 2))) fun e w' => e = .returned (.int .i64 20) ∧ Below W.heap.size W w') := hid (fun W hW => by
    have hb : Below W.heap.size W (W.alloc (.cells #[.int .u8 108] 5 (1, 2))) := (Below.refl _ _).alloc (Nat.le_refl _) _
    have hb2 := hW.trans (hb.mono hW.size)
    have q := pVerify12_any (HTT.out _ (HB12.out.trans (hb2.mono HB12.out.size))) (HV12.out.below hb2) (FewTok.ok lokV) (some ⟨W.heap.size, 0, none⟩) lL 1 1 rfl (by omega) (Nat.le_refl _) (by omega) (byt_one W 108 108 rfl (1, 2))
    rw [l_ver2] at q
    exact q.mono fun e w' ⟨h1, h2⟩ => ⟨h1, hb.trans (h2.mono hb.size)⟩)
  have HD := hid (Below.refl w12.heap.size w12).drew
  clear hL1 hL2 hL3 hL4 hL5 hg2 hrow hbl hcl z0 z1 b12 e1 c0 c1 c2 c3 c4 c5 c6 c7 c8 HX6 HX7 HX9 HX11 HA2 HA4 HA6 HA7 HA9 HA11 HR2 HR4 HR6 HR7 HR9 HR11 HN5 HN6 HN8 HN9 HN10 HV11 HU11 HY11 HM4 HNA HNB HRO HB24 HB4 HB5 HB6 HB7 HB8 HB9 HB10 HB11 HW2 HW3 HW4 HW6 HW7 HW9 HW11 HX12 HY12 HA12 HR12 HV12 HU12 HTT
  go_wp2_with fail
  refine wp_region_held_drew (S := (fun W => W.cell? ⟨gU, 0, none⟩ = some (.int .i64 d5) ∧ W.cell? ⟨gU, 1, none⟩ = some (.int .i64 e5) ∧ W.cell? ⟨gU, 2, none⟩ = some (.int .i64 m5) ∧ W.cell? ⟨gU, 3, none⟩ = some (.string who5) ∧ W.cell? ⟨gU, 4, none⟩ = some (.slice rA5 rn5 rc5) ∧ W.cell? ⟨gU, 5, none⟩ = some (.int .i64 til5) ∧ W.cell? ⟨gU, 6, none⟩ = some (.slice sA5 sn5 sc5) ∧ W.cell? ⟨gU, 7, none⟩ = some (.slice cA5 cn5 cc5) ∧ W.cell? ⟨gU, 8, none⟩ = some (.slice tA5 tn5 tc5) ∧ W.cell? ⟨gV, 0, none⟩ = some (.int .i64 d7) ∧ W.cell? ⟨gV, 1, none⟩ = some (.int .i64 e7) ∧ W.cell? ⟨gV, 2, none⟩ = some (.int .i64 m7) ∧ W.cell? ⟨gV, 3, none⟩ = some (.string who7) ∧ W.cell? ⟨gV, 4, none⟩ = some (.slice rA7 rn7 rc7) ∧ W.cell? ⟨gV, 5, none⟩ = some (.int .i64 til7) ∧ W.cell? ⟨gV, 6, none⟩ = some (.slice sA7 sn7 sc7) ∧ W.cell? ⟨gV, 7, none⟩ = some (.slice cA7 cn7 cc7) ∧ W.cell? ⟨gV, 8, none⟩ = some (.slice tA7 tn7 tc7) ∧ W.cell? ⟨w.heap.size, 0, none⟩ = some (.string ⟨#[100, 49]⟩) ∧ W.cell? ⟨w.heap.size, 1, none⟩ = some (.string ⟨#[97]⟩) ∧ W.cell? ⟨w.heap.size + 1, 0, none⟩ = some (.string ⟨#[100, 49]⟩) ∧ W.cell? ⟨w.heap.size + 1, 1, none⟩ = some (.string ⟨#[98]⟩) ∧ W.cell? ⟨gL, 0, none⟩ = some (.string ⟨#[100, 49]⟩) ∧ W.cell? ⟨gL, 1, none⟩ = some (.string ⟨#[98]⟩))) (by kernel_rfl) (HS.out _ HD.out) (fun hH0 => ?_)
  refine wpAnyH_take (i := 0) (oi := ({ dst := some 38, op := Go.Op.move (Go.Operand.tmp 4), type := 30, pos := "law.go:22", after := #[], guard := none } : Oper)) (v := (.int .i64 0)) rfl (by kernel_rfl) (by kernel_rfl) (by kernel_rfl) (fun _ _ _ h => h) (Or.inl ⟨by rfl, by intro w hSw; (try dsimp only at hSw); go_simp; try with_reducible rfl⟩) hH0 ?_
  simp only [Act.put, List.setIfInBounds_toArray, List.set_cons_zero, List.set_cons_succ]
  refine wpAnyH_take (i := 1) (oi := ({ dst := some 39, op := Go.Op.binOp BinOp.eql 30 (Go.Operand.tmp 38) (Go.Operand.const (Go.Value.int Go.IntKind.i64 0)) 30, type := 4, pos := "law.go:22", after := #[{ on := 0, ground := Go.Ground.data }], guard := none } : Oper)) (v := (.bool true)) rfl (by kernel_rfl) (by kernel_rfl) (by kernel_rfl) (fun _ _ _ h => h) (Or.inl ⟨by rfl, by intro w hSw; (try dsimp only at hSw); go_simp; try with_reducible rfl⟩) hH0 ?_
  simp only [Act.put, List.setIfInBounds_toArray, List.set_cons_zero, List.set_cons_succ]
  refine wpAnyH_take (i := 2) (oi := ({ dst := some 40, op := Go.Op.move (Go.Operand.tmp 39), type := 4, pos := "law.go:22", after := #[{ on := 1, ground := Go.Ground.data }], guard := none } : Oper)) (v := (.bool true)) rfl (by kernel_rfl) (by kernel_rfl) (by kernel_rfl) (fun _ _ _ h => h) (Or.inl ⟨by rfl, by intro w hSw; (try dsimp only at hSw); go_simp; try with_reducible rfl⟩) hH0 ?_
  simp only [Act.put, List.setIfInBounds_toArray, List.set_cons_zero, List.set_cons_succ]
  refine wpAnyH_take (i := 3) (oi := ({ dst := some 41, op := Go.Op.move (Go.Operand.tmp 6), type := 30, pos := "law.go:22", after := #[{ on := 2, ground := Go.Ground.guard }], guard := some (2, true) } : Oper)) (v := (.int .i64 0)) rfl (by kernel_rfl) (by kernel_rfl) (by kernel_rfl) (fun _ _ _ h => h) (Or.inl ⟨by rfl, by intro w hSw; (try dsimp only at hSw); go_simp; try with_reducible rfl⟩) hH0 ?_
  simp only [Act.put, List.setIfInBounds_toArray, List.set_cons_zero, List.set_cons_succ]
  refine wpAnyH_take (i := 4) (oi := ({ dst := some 42, op := Go.Op.binOp BinOp.eql 30 (Go.Operand.tmp 41) (Go.Operand.const (Go.Value.int Go.IntKind.i64 0)) 30, type := 4, pos := "law.go:22", after := #[{ on := 3, ground := Go.Ground.data }, { on := 2, ground := Go.Ground.guard }], guard := some (2, true) } : Oper)) (v := (.bool true)) rfl (by kernel_rfl) (by kernel_rfl) (by kernel_rfl) (fun _ _ _ h => h) (Or.inl ⟨by rfl, by intro w hSw; (try dsimp only at hSw); go_simp; try with_reducible rfl⟩) hH0 ?_
  simp only [Act.put, List.setIfInBounds_toArray, List.set_cons_zero, List.set_cons_succ]
  refine wpAnyH_take (i := 5) (oi := ({ dst := some 43, op := Go.Op.pick (Go.Operand.tmp 40) (Go.Operand.tmp 42) (Go.Operand.const (Go.Value.bool false)), type := 4, pos := "law.go:22", after := #[{ on := 2, ground := Go.Ground.data }, { on := 4, ground := Go.Ground.data }], guard := none } : Oper)) (v := (.bool true)) rfl (by kernel_rfl) (by kernel_rfl) (by kernel_rfl) (fun _ _ _ h => h) (Or.inl ⟨by rfl, by intro w hSw; (try dsimp only at hSw); go_simp; try with_reducible rfl⟩) hH0 ?_
  simp only [Act.put, List.setIfInBounds_toArray, List.set_cons_zero, List.set_cons_succ]
  refine wpAnyH_take (i := 6) (oi := ({ dst := some 44, op := Go.Op.move (Go.Operand.tmp 43), type := 4, pos := "law.go:22", after := #[{ on := 5, ground := Go.Ground.data }, { on := 2, ground := Go.Ground.chain }], guard := none } : Oper)) (v := (.bool true)) rfl (by kernel_rfl) (by kernel_rfl) (by kernel_rfl) (fun _ _ _ h => h) (Or.inl ⟨by rfl, by intro w hSw; (try dsimp only at hSw); go_simp; try with_reducible rfl⟩) hH0 ?_
  simp only [Act.put, List.setIfInBounds_toArray, List.set_cons_zero, List.set_cons_succ]
  refine wpAnyH_take (i := 7) (oi := ({ dst := some 45, op := Go.Op.move (Go.Operand.tmp 8), type := 30, pos := "law.go:22", after := #[{ on := 6, ground := Go.Ground.guard }], guard := some (6, true) } : Oper)) (v := (.int .i64 0)) rfl (by kernel_rfl) (by kernel_rfl) (by kernel_rfl) (fun _ _ _ h => h) (Or.inl ⟨by rfl, by intro w hSw; (try dsimp only at hSw); go_simp; try with_reducible rfl⟩) hH0 ?_
  simp only [Act.put, List.setIfInBounds_toArray, List.set_cons_zero, List.set_cons_succ]
  refine wpAnyH_take (i := 8) (oi := ({ dst := some 46, op := Go.Op.binOp BinOp.eql 30 (Go.Operand.tmp 45) (Go.Operand.const (Go.Value.int Go.IntKind.i64 0)) 30, type := 4, pos := "law.go:22", after := #[{ on := 7, ground := Go.Ground.data }, { on := 6, ground := Go.Ground.guard }], guard := some (6, true) } : Oper)) (v := (.bool true)) rfl (by kernel_rfl) (by kernel_rfl) (by kernel_rfl) (fun _ _ _ h => h) (Or.inl ⟨by rfl, by intro w hSw; (try dsimp only at hSw); go_simp; try with_reducible rfl⟩) hH0 ?_
  simp only [Act.put, List.setIfInBounds_toArray, List.set_cons_zero, List.set_cons_succ]
  refine wpAnyH_take (i := 9) (oi := ({ dst := some 47, op := Go.Op.pick (Go.Operand.tmp 44) (Go.Operand.tmp 46) (Go.Operand.const (Go.Value.bool false)), type := 4, pos := "law.go:22", after := #[{ on := 6, ground := Go.Ground.data }, { on := 8, ground := Go.Ground.data }], guard := none } : Oper)) (v := (.bool true)) rfl (by kernel_rfl) (by kernel_rfl) (by kernel_rfl) (fun _ _ _ h => h) (Or.inl ⟨by rfl, by intro w hSw; (try dsimp only at hSw); go_simp; try with_reducible rfl⟩) hH0 ?_
  simp only [Act.put, List.setIfInBounds_toArray, List.set_cons_zero, List.set_cons_succ]
  refine wpAnyH_take (i := 10) (oi := ({ dst := some 48, op := Go.Op.move (Go.Operand.tmp 47), type := 4, pos := "law.go:22", after := #[{ on := 9, ground := Go.Ground.data }, { on := 6, ground := Go.Ground.chain }], guard := none } : Oper)) (v := (.bool true)) rfl (by kernel_rfl) (by kernel_rfl) (by kernel_rfl) (fun _ _ _ h => h) (Or.inl ⟨by rfl, by intro w hSw; (try dsimp only at hSw); go_simp; try with_reducible rfl⟩) hH0 ?_
  simp only [Act.put, List.setIfInBounds_toArray, List.set_cons_zero, List.set_cons_succ]
  refine wpAnyH_take (i := 11) (oi := ({ dst := some 49, op := Go.Op.move (Go.Operand.tmp 9), type := 23, pos := "law.go:22", after := #[{ on := 10, ground := Go.Ground.guard }], guard := some (10, true) } : Oper)) (v := (.slice (some ⟨gL, 0, none⟩) 1 cL)) rfl (by kernel_rfl) (by kernel_rfl) (by kernel_rfl) (fun _ _ _ h => h) (Or.inl ⟨by rfl, by intro w hSw; (try dsimp only at hSw); go_simp; try with_reducible rfl⟩) hH0 ?_
  simp only [Act.put, List.setIfInBounds_toArray, List.set_cons_zero, List.set_cons_succ]
  refine wpAnyH_take (i := 12) (oi := ({ dst := some 50, op := Go.Op.call { callee := Go.Callee.builtin Go.Builtin.len, args := #[Go.Operand.tmp 49], argTypes := #[23] }, type := 3, pos := "law.go:22", after := #[{ on := 11, ground := Go.Ground.data }, { on := 10, ground := Go.Ground.guard }], guard := some (10, true) } : Oper)) (v := (.int .i64 1)) rfl (by kernel_rfl) (by kernel_rfl) (by kernel_rfl) (fun _ _ _ h => h) (Or.inl ⟨by rfl, by intro w hSw; (try dsimp only at hSw); go_simp; try with_reducible rfl⟩) hH0 ?_
  simp only [Act.put, List.setIfInBounds_toArray, List.set_cons_zero, List.set_cons_succ]
  refine wpAnyH_take (i := 13) (oi := ({ dst := some 51, op := Go.Op.binOp BinOp.eql 3 (Go.Operand.tmp 50) (Go.Operand.const (Go.Value.int Go.IntKind.i64 1)) 3, type := 4, pos := "law.go:22", after := #[{ on := 12, ground := Go.Ground.data }, { on := 10, ground := Go.Ground.guard }], guard := some (10, true) } : Oper)) (v := (.bool true)) rfl (by kernel_rfl) (by kernel_rfl) (by kernel_rfl) (fun _ _ _ h => h) (Or.inl ⟨by rfl, by intro w hSw; (try dsimp only at hSw); go_simp; try with_reducible rfl⟩) hH0 ?_
  simp only [Act.put, List.setIfInBounds_toArray, List.set_cons_zero, List.set_cons_succ]
  refine wpAnyH_take (i := 14) (oi := ({ dst := some 52, op := Go.Op.pick (Go.Operand.tmp 48) (Go.Operand.tmp 51) (Go.Operand.const (Go.Value.bool false)), type := 4, pos := "law.go:22", after := #[{ on := 10, ground := Go.Ground.data }, { on := 13, ground := Go.Ground.data }], guard := none } : Oper)) (v := (.bool true)) rfl (by kernel_rfl) (by kernel_rfl) (by kernel_rfl) (fun _ _ _ h => h) (Or.inl ⟨by rfl, by intro w hSw; (try dsimp only at hSw); go_simp; try with_reducible rfl⟩) hH0 ?_
  simp only [Act.put, List.setIfInBounds_toArray, List.set_cons_zero, List.set_cons_succ]
  refine wpAnyH_take (i := 15) (oi := ({ dst := some 53, op := Go.Op.move (Go.Operand.tmp 52), type := 4, pos := "law.go:22", after := #[{ on := 14, ground := Go.Ground.data }, { on := 10, ground := Go.Ground.chain }], guard := none } : Oper)) (v := (.bool true)) rfl (by kernel_rfl) (by kernel_rfl) (by kernel_rfl) (fun _ _ _ h => h) (Or.inl ⟨by rfl, by intro w hSw; (try dsimp only at hSw); go_simp; try with_reducible rfl⟩) hH0 ?_
  simp only [Act.put, List.setIfInBounds_toArray, List.set_cons_zero, List.set_cons_succ]
  refine wpAnyH_take (i := 16) (oi := ({ dst := some 54, op := Go.Op.move (Go.Operand.tmp 9), type := 23, pos := "law.go:22", after := #[{ on := 15, ground := Go.Ground.guard }], guard := some (15, true) } : Oper)) (v := (.slice (some ⟨gL, 0, none⟩) 1 cL)) rfl (by kernel_rfl) (by kernel_rfl) (by kernel_rfl) (fun _ _ _ h => h) (Or.inl ⟨by rfl, by intro w hSw; (try dsimp only at hSw); go_simp; try with_reducible rfl⟩) hH0 ?_
  simp only [Act.put, List.setIfInBounds_toArray, List.set_cons_zero, List.set_cons_succ]
  refine wpAnyH_take (i := 17) (oi := ({ dst := some 55, op := Go.Op.indexAddr 23 (Go.Operand.tmp 54) (Go.Operand.const (Go.Value.int Go.IntKind.i64 0)), type := 0, pos := "law.go:22", after := #[{ on := 16, ground := Go.Ground.data }, { on := 15, ground := Go.Ground.guard }], guard := some (15, true) } : Oper)) (v := (.pointer (some ⟨gL, 0, none⟩))) rfl (by kernel_rfl) (by kernel_rfl) (by kernel_rfl) (fun _ _ _ h => h) (Or.inl ⟨by rfl, by intro w hSw; (try dsimp only at hSw); go_simp; try with_reducible rfl⟩) hH0 ?_
  simp only [Act.put, List.setIfInBounds_toArray, List.set_cons_zero, List.set_cons_succ]
  refine wpAnyH_take (i := 18) (oi := ({ dst := some 56, op := Go.Op.load 69 (Go.Operand.tmp 55), type := 69, pos := "law.go:22", after := #[{ on := 17, ground := Go.Ground.data }, { on := 15, ground := Go.Ground.guard }], guard := some (15, true) } : Oper)) (v := (.agg #[.string ⟨#[100, 49]⟩, .string ⟨#[98]⟩])) rfl (by kernel_rfl) (by kernel_rfl) (by kernel_rfl) (fun _ _ _ h => h) (Or.inl ⟨by rfl, by intro w hSw; (try dsimp only at hSw); go_simp; try with_reducible rfl⟩) hH0 ?_
  simp only [Act.put, List.setIfInBounds_toArray, List.set_cons_zero, List.set_cons_succ]
  refine wpAnyH_take (i := 19) (oi := ({ dst := some 57, op := Go.Op.load 69 (Go.Operand.tmp 2), type := 69, pos := "law.go:22", after := #[{ on := 15, ground := Go.Ground.guard }], guard := some (15, true) } : Oper)) (v := (.agg #[.string ⟨#[100, 49]⟩, .string ⟨#[98]⟩])) rfl (by kernel_rfl) (by kernel_rfl) (by kernel_rfl) (fun _ _ _ h => h) (Or.inl ⟨by rfl, by intro w hSw; (try dsimp only at hSw); go_simp; try with_reducible rfl⟩) hH0 ?_
  simp only [Act.put, List.setIfInBounds_toArray, List.set_cons_zero, List.set_cons_succ]
  refine wpAnyH_take (i := 20) (oi := ({ dst := some 58, op := Go.Op.binOp BinOp.eql 69 (Go.Operand.tmp 56) (Go.Operand.tmp 57) 69, type := 4, pos := "law.go:22", after := #[{ on := 18, ground := Go.Ground.data }, { on := 19, ground := Go.Ground.data }, { on := 15, ground := Go.Ground.guard }], guard := some (15, true) } : Oper)) (v := (.bool true)) rfl (by kernel_rfl) (by kernel_rfl) (by kernel_rfl) (fun _ _ _ h => h) (Or.inl ⟨by rfl, by intro w hSw; (try dsimp only at hSw); go_simp; try with_reducible rfl⟩) hH0 ?_
  simp only [Act.put, List.setIfInBounds_toArray, List.set_cons_zero, List.set_cons_succ]
  refine wpAnyH_take (i := 21) (oi := ({ dst := some 59, op := Go.Op.pick (Go.Operand.tmp 53) (Go.Operand.tmp 58) (Go.Operand.const (Go.Value.bool false)), type := 4, pos := "law.go:22", after := #[{ on := 15, ground := Go.Ground.data }, { on := 20, ground := Go.Ground.data }], guard := none } : Oper)) (v := (.bool true)) rfl (by kernel_rfl) (by kernel_rfl) (by kernel_rfl) (fun _ _ _ h => h) (Or.inl ⟨by rfl, by intro w hSw; (try dsimp only at hSw); go_simp; try with_reducible rfl⟩) hH0 ?_
  simp only [Act.put, List.setIfInBounds_toArray, List.set_cons_zero, List.set_cons_succ]
  refine wpAnyH_take (i := 22) (oi := ({ dst := some 60, op := Go.Op.move (Go.Operand.tmp 59), type := 4, pos := "law.go:22", after := #[{ on := 21, ground := Go.Ground.data }, { on := 15, ground := Go.Ground.chain }], guard := none } : Oper)) (v := (.bool true)) rfl (by kernel_rfl) (by kernel_rfl) (by kernel_rfl) (fun _ _ _ h => h) (Or.inl ⟨by rfl, by intro w hSw; (try dsimp only at hSw); go_simp; try with_reducible rfl⟩) hH0 ?_
  simp only [Act.put, List.setIfInBounds_toArray, List.set_cons_zero, List.set_cons_succ]
  refine wpAnyH_take (i := 23) (oi := ({ dst := some 61, op := Go.Op.load 27 (Go.Operand.tmp 5), type := 27, pos := "law.go:22", after := #[{ on := 22, ground := Go.Ground.guard }], guard := some (22, true) } : Oper)) (v := (.agg #[.int .i64 d5, .int .i64 e5, .int .i64 m5, .string who5, .slice rA5 rn5 rc5, .int .i64 til5, .slice sA5 sn5 sc5, .slice cA5 cn5 cc5, .slice tA5 tn5 tc5])) rfl (by kernel_rfl) (by kernel_rfl) (by kernel_rfl) (fun _ _ _ h => h) (Or.inl ⟨by rfl, by intro w hSw; (try dsimp only at hSw); go_simp; try with_reducible rfl⟩) hH0 ?_
  simp only [Act.put, List.setIfInBounds_toArray, List.set_cons_zero, List.set_cons_succ]
  refine wpAnyH_take (i := 24) (oi := ({ dst := some 62, op := Go.Op.load 69 (Go.Operand.tmp 1), type := 69, pos := "law.go:22", after := #[{ on := 22, ground := Go.Ground.guard }], guard := some (22, true) } : Oper)) (v := (.agg #[.string ⟨#[100, 49]⟩, .string ⟨#[97]⟩])) rfl (by kernel_rfl) (by kernel_rfl) (by kernel_rfl) (fun _ _ _ h => h) (Or.inl ⟨by rfl, by intro w hSw; (try dsimp only at hSw); go_simp; try with_reducible rfl⟩) hH0 ?_
  simp only [Act.put, List.setIfInBounds_toArray, List.set_cons_zero, List.set_cons_succ]
  refine wpAnyH_ready (rs := [25]) (by kernel_rfl) (by simp) ?_
  refine AllReadyH.cons (o := ({ dst := some 63, op := Go.Op.call { callee := Go.Callee.value (Go.Operand.func 39), args := #[Go.Operand.tmp 61, Go.Operand.tmp 62, Go.Operand.const (Go.Value.string { data := #[] }), Go.Operand.const (Go.Value.int Go.IntKind.i64 1)], argTypes := #[27, 69, 9, 3] }, type := 30, pos := "law.go:22", after := #[{ on := 23, ground := Go.Ground.data }, { on := 24, ground := Go.Ground.data }, { on := 22, ground := Go.Ground.chain }, { on := 22, ground := Go.Ground.guard }], guard := some (22, true) } : Oper)) rfl (fun K hK => ?_) AllReadyH.nil
  rw [if_pos (by rfl)]
  go_simp
  refine (HAL1.out _ HD.out).mono ?_
  rintro er w13 ⟨rfl, b13⟩
  have BQ13 := hid (HD.out.trans b13)
  refine hK.out _ _ (HS.out _ BQ13.out) (fun hH25 => ?_)
  clear hK K hH0 b13
  try simp only [Act.put, List.setIfInBounds_toArray, List.set_cons_zero, List.set_cons_succ]
  refine wpAnyH_take (i := 26) (oi := ({ dst := some 64, op := Go.Op.binOp BinOp.eql 30 (Go.Operand.tmp 63) (Go.Operand.const (Go.Value.int Go.IntKind.i64 23)) 30, type := 4, pos := "law.go:22", after := #[{ on := 25, ground := Go.Ground.data }, { on := 22, ground := Go.Ground.guard }], guard := some (22, true) } : Oper)) (v := (.bool true)) rfl (by kernel_rfl) (by kernel_rfl) (by kernel_rfl) (fun _ _ _ h => h) (Or.inl ⟨by rfl, by intro w hSw; (try dsimp only at hSw); go_simp; try with_reducible rfl⟩) hH25 ?_
  simp only [Act.put, List.setIfInBounds_toArray, List.set_cons_zero, List.set_cons_succ]
  refine wpAnyH_take (i := 27) (oi := ({ dst := some 65, op := Go.Op.pick (Go.Operand.tmp 60) (Go.Operand.tmp 64) (Go.Operand.const (Go.Value.bool false)), type := 4, pos := "law.go:22", after := #[{ on := 22, ground := Go.Ground.data }, { on := 26, ground := Go.Ground.data }], guard := none } : Oper)) (v := (.bool true)) rfl (by kernel_rfl) (by kernel_rfl) (by kernel_rfl) (fun _ _ _ h => h) (Or.inl ⟨by rfl, by intro w hSw; (try dsimp only at hSw); go_simp; try with_reducible rfl⟩) hH25 ?_
  simp only [Act.put, List.setIfInBounds_toArray, List.set_cons_zero, List.set_cons_succ]
  refine wpAnyH_take (i := 28) (oi := ({ dst := some 66, op := Go.Op.move (Go.Operand.tmp 65), type := 4, pos := "law.go:22", after := #[{ on := 27, ground := Go.Ground.data }, { on := 25, ground := Go.Ground.chain }], guard := none } : Oper)) (v := (.bool true)) rfl (by kernel_rfl) (by kernel_rfl) (by kernel_rfl) (fun _ _ _ h => h) (Or.inl ⟨by rfl, by intro w hSw; (try dsimp only at hSw); go_simp; try with_reducible rfl⟩) hH25 ?_
  simp only [Act.put, List.setIfInBounds_toArray, List.set_cons_zero, List.set_cons_succ]
  refine wpAnyH_take (i := 29) (oi := ({ dst := some 67, op := Go.Op.load 27 (Go.Operand.tmp 7), type := 27, pos := "law.go:22", after := #[{ on := 28, ground := Go.Ground.guard }], guard := some (28, true) } : Oper)) (v := (.agg #[.int .i64 d7, .int .i64 e7, .int .i64 m7, .string who7, .slice rA7 rn7 rc7, .int .i64 til7, .slice sA7 sn7 sc7, .slice cA7 cn7 cc7, .slice tA7 tn7 tc7])) rfl (by kernel_rfl) (by kernel_rfl) (by kernel_rfl) (fun _ _ _ h => h) (Or.inl ⟨by rfl, by intro w hSw; (try dsimp only at hSw); go_simp; try with_reducible rfl⟩) hH25 ?_
  simp only [Act.put, List.setIfInBounds_toArray, List.set_cons_zero, List.set_cons_succ]
  refine wpAnyH_ready (rs := [30]) (by kernel_rfl) (by simp) ?_
  refine AllReadyH.cons (o := ({ dst := some 68, op := Go.Op.call { callee := Go.Callee.value (Go.Operand.func 40), args := #[Go.Operand.tmp 67], argTypes := #[27] }, type := 3, pos := "law.go:22", after := #[{ on := 29, ground := Go.Ground.data }, { on := 28, ground := Go.Ground.chain }, { on := 28, ground := Go.Ground.guard }], guard := some (28, true) } : Oper)) rfl (fun K hK => ?_) AllReadyH.nil
  rw [if_pos (by rfl)]
  go_simp
  refine (HUN.out _ BQ13.out).mono ?_
  rintro er w14 ⟨rfl, b14⟩
  have BQ14 := hid (BQ13.out.trans (b14.mono BQ13.out.size))
  refine hK.out _ _ (HS.out _ BQ14.out) (fun hH30 => ?_)
  clear hK K hH25 b14
  try simp only [Act.put, List.setIfInBounds_toArray, List.set_cons_zero, List.set_cons_succ]
  refine wpAnyH_take (i := 31) (oi := ({ dst := some 69, op := Go.Op.binOp BinOp.eql 3 (Go.Operand.tmp 68) (Go.Operand.const (Go.Value.int Go.IntKind.i64 30)) 3, type := 4, pos := "law.go:22", after := #[{ on := 30, ground := Go.Ground.data }, { on := 28, ground := Go.Ground.guard }], guard := some (28, true) } : Oper)) (v := (.bool true)) rfl (by kernel_rfl) (by kernel_rfl) (by kernel_rfl) (fun _ _ _ h => h) (Or.inl ⟨by rfl, by intro w hSw; (try dsimp only at hSw); go_simp; try with_reducible rfl⟩) hH30 ?_
  simp only [Act.put, List.setIfInBounds_toArray, List.set_cons_zero, List.set_cons_succ]
  refine wpAnyH_take (i := 32) (oi := ({ dst := some 70, op := Go.Op.pick (Go.Operand.tmp 66) (Go.Operand.tmp 69) (Go.Operand.const (Go.Value.bool false)), type := 4, pos := "law.go:22", after := #[{ on := 28, ground := Go.Ground.data }, { on := 31, ground := Go.Ground.data }], guard := none } : Oper)) (v := (.bool true)) rfl (by kernel_rfl) (by kernel_rfl) (by kernel_rfl) (fun _ _ _ h => h) (Or.inl ⟨by rfl, by intro w hSw; (try dsimp only at hSw); go_simp; try with_reducible rfl⟩) hH30 ?_
  simp only [Act.put, List.setIfInBounds_toArray, List.set_cons_zero, List.set_cons_succ]
  refine wpAnyH_take (i := 33) (oi := ({ dst := some 71, op := Go.Op.move (Go.Operand.tmp 70), type := 4, pos := "law.go:22", after := #[{ on := 32, ground := Go.Ground.data }, { on := 30, ground := Go.Ground.chain }], guard := none } : Oper)) (v := (.bool true)) rfl (by kernel_rfl) (by kernel_rfl) (by kernel_rfl) (fun _ _ _ h => h) (Or.inl ⟨by rfl, by intro w hSw; (try dsimp only at hSw); go_simp; try with_reducible rfl⟩) hH30 ?_
  simp only [Act.put, List.setIfInBounds_toArray, List.set_cons_zero, List.set_cons_succ]
  refine wpAnyH_take (i := 34) (oi := ({ dst := some 72, op := Go.Op.load 27 (Go.Operand.tmp 7), type := 27, pos := "law.go:22", after := #[{ on := 33, ground := Go.Ground.guard }], guard := some (33, true) } : Oper)) (v := (.agg #[.int .i64 d7, .int .i64 e7, .int .i64 m7, .string who7, .slice rA7 rn7 rc7, .int .i64 til7, .slice sA7 sn7 sc7, .slice cA7 cn7 cc7, .slice tA7 tn7 tc7])) rfl (by kernel_rfl) (by kernel_rfl) (by kernel_rfl) (fun _ _ _ h => h) (Or.inl ⟨by rfl, by intro w hSw; (try dsimp only at hSw); go_simp; try with_reducible rfl⟩) hH30 ?_
  simp only [Act.put, List.setIfInBounds_toArray, List.set_cons_zero, List.set_cons_succ]
  refine wpAnyH_take (i := 35) (oi := ({ dst := some 73, op := Go.Op.load 69 (Go.Operand.tmp 2), type := 69, pos := "law.go:22", after := #[{ on := 33, ground := Go.Ground.guard }], guard := some (33, true) } : Oper)) (v := (.agg #[.string ⟨#[100, 49]⟩, .string ⟨#[98]⟩])) rfl (by kernel_rfl) (by kernel_rfl) (by kernel_rfl) (fun _ _ _ h => h) (Or.inl ⟨by rfl, by intro w hSw; (try dsimp only at hSw); go_simp; try with_reducible rfl⟩) hH30 ?_
  simp only [Act.put, List.setIfInBounds_toArray, List.set_cons_zero, List.set_cons_succ]
  refine wpAnyH_ready (rs := [36]) (by kernel_rfl) (by simp) ?_
  refine AllReadyH.cons (o := ({ dst := some 74, op := Go.Op.call { callee := Go.Callee.value (Go.Operand.func 39), args := #[Go.Operand.tmp 72, Go.Operand.tmp 73, Go.Operand.const (Go.Value.string { data := #[] }), Go.Operand.const (Go.Value.int Go.IntKind.i64 30)], argTypes := #[27, 69, 9, 3] }, type := 30, pos := "law.go:22", after := #[{ on := 34, ground := Go.Ground.data }, { on := 35, ground := Go.Ground.data }, { on := 33, ground := Go.Ground.chain }, { on := 33, ground := Go.Ground.guard }], guard := some (33, true) } : Oper)) rfl (fun K hK => ?_) AllReadyH.nil
  rw [if_pos (by rfl)]
  go_simp
  refine (HAL2.out _ BQ14.out).mono ?_
  rintro er w15 ⟨rfl, b15⟩
  have BQ15 := hid (BQ14.out.trans (b15.mono BQ14.out.size))
  refine hK.out _ _ (HS.out _ BQ15.out) (fun hH36 => ?_)
  clear hK K hH30 b15
  try simp only [Act.put, List.setIfInBounds_toArray, List.set_cons_zero, List.set_cons_succ]
  refine wpAnyH_take (i := 37) (oi := ({ dst := some 75, op := Go.Op.binOp BinOp.eql 30 (Go.Operand.tmp 74) (Go.Operand.const (Go.Value.int Go.IntKind.i64 21)) 30, type := 4, pos := "law.go:22", after := #[{ on := 36, ground := Go.Ground.data }, { on := 33, ground := Go.Ground.guard }], guard := some (33, true) } : Oper)) (v := (.bool true)) rfl (by kernel_rfl) (by kernel_rfl) (by kernel_rfl) (fun _ _ _ h => h) (Or.inl ⟨by rfl, by intro w hSw; (try dsimp only at hSw); go_simp; try with_reducible rfl⟩) hH36 ?_
  simp only [Act.put, List.setIfInBounds_toArray, List.set_cons_zero, List.set_cons_succ]
  refine wpAnyH_take (i := 38) (oi := ({ dst := some 76, op := Go.Op.pick (Go.Operand.tmp 71) (Go.Operand.tmp 75) (Go.Operand.const (Go.Value.bool false)), type := 4, pos := "law.go:22", after := #[{ on := 33, ground := Go.Ground.data }, { on := 37, ground := Go.Ground.data }], guard := none } : Oper)) (v := (.bool true)) rfl (by kernel_rfl) (by kernel_rfl) (by kernel_rfl) (fun _ _ _ h => h) (Or.inl ⟨by rfl, by intro w hSw; (try dsimp only at hSw); go_simp; try with_reducible rfl⟩) hH36 ?_
  simp only [Act.put, List.setIfInBounds_toArray, List.set_cons_zero, List.set_cons_succ]
  refine wpAnyH_take (i := 39) (oi := ({ dst := some 77, op := Go.Op.move (Go.Operand.tmp 76), type := 4, pos := "law.go:22", after := #[{ on := 38, ground := Go.Ground.data }, { on := 36, ground := Go.Ground.chain }], guard := none } : Oper)) (v := (.bool true)) rfl (by kernel_rfl) (by kernel_rfl) (by kernel_rfl) (fun _ _ _ h => h) (Or.inl ⟨by rfl, by intro w hSw; (try dsimp only at hSw); go_simp; try with_reducible rfl⟩) hH36 ?_
  simp only [Act.put, List.setIfInBounds_toArray, List.set_cons_zero, List.set_cons_succ]
  refine wpAnyH_take (i := 40) (oi := ({ dst := some 78, op := Go.Op.load 27 (Go.Operand.tmp 7), type := 27, pos := "law.go:22", after := #[{ on := 39, ground := Go.Ground.guard }], guard := some (39, true) } : Oper)) (v := (.agg #[.int .i64 d7, .int .i64 e7, .int .i64 m7, .string who7, .slice rA7 rn7 rc7, .int .i64 til7, .slice sA7 sn7 sc7, .slice cA7 cn7 cc7, .slice tA7 tn7 tc7])) rfl (by kernel_rfl) (by kernel_rfl) (by kernel_rfl) (fun _ _ _ h => h) (Or.inl ⟨by rfl, by intro w hSw; (try dsimp only at hSw); go_simp; try with_reducible rfl⟩) hH36 ?_
  simp only [Act.put, List.setIfInBounds_toArray, List.set_cons_zero, List.set_cons_succ]
  refine wpAnyH_take (i := 41) (oi := ({ dst := some 79, op := Go.Op.load 69 (Go.Operand.tmp 2), type := 69, pos := "law.go:22", after := #[{ on := 39, ground := Go.Ground.guard }], guard := some (39, true) } : Oper)) (v := (.agg #[.string ⟨#[100, 49]⟩, .string ⟨#[98]⟩])) rfl (by kernel_rfl) (by kernel_rfl) (by kernel_rfl) (fun _ _ _ h => h) (Or.inl ⟨by rfl, by intro w hSw; (try dsimp only at hSw); go_simp; try with_reducible rfl⟩) hH36 ?_
  simp only [Act.put, List.setIfInBounds_toArray, List.set_cons_zero, List.set_cons_succ]
  refine wpAnyH_ready (rs := [42]) (by kernel_rfl) (by simp) ?_
  refine AllReadyH.cons (o := ({ dst := some 80, op := Go.Op.call { callee := Go.Callee.value (Go.Operand.func 39), args := #[Go.Operand.tmp 78, Go.Operand.tmp 79, Go.Operand.const (Go.Value.string { data := #[] }), Go.Operand.const (Go.Value.int Go.IntKind.i64 29)], argTypes := #[27, 69, 9, 3] }, type := 30, pos := "law.go:22", after := #[{ on := 40, ground := Go.Ground.data }, { on := 41, ground := Go.Ground.data }, { on := 39, ground := Go.Ground.chain }, { on := 39, ground := Go.Ground.guard }], guard := some (39, true) } : Oper)) rfl (fun K hK => ?_) AllReadyH.nil
  rw [if_pos (by rfl)]
  go_simp
  refine (HAL3.out _ BQ15.out).mono ?_
  rintro er w16 ⟨rfl, b16⟩
  have BQ16 := hid (BQ15.out.trans (b16.mono BQ15.out.size))
  refine hK.out _ _ (HS.out _ BQ16.out) (fun hH42 => ?_)
  clear hK K hH36 b16
  try simp only [Act.put, List.setIfInBounds_toArray, List.set_cons_zero, List.set_cons_succ]
  refine wpAnyH_take (i := 43) (oi := ({ dst := some 81, op := Go.Op.binOp BinOp.eql 30 (Go.Operand.tmp 80) (Go.Operand.const (Go.Value.int Go.IntKind.i64 0)) 30, type := 4, pos := "law.go:22", after := #[{ on := 42, ground := Go.Ground.data }, { on := 39, ground := Go.Ground.guard }], guard := some (39, true) } : Oper)) (v := (.bool true)) rfl (by kernel_rfl) (by kernel_rfl) (by kernel_rfl) (fun _ _ _ h => h) (Or.inl ⟨by rfl, by intro w hSw; (try dsimp only at hSw); go_simp; try with_reducible rfl⟩) hH42 ?_
  simp only [Act.put, List.setIfInBounds_toArray, List.set_cons_zero, List.set_cons_succ]
  refine wpAnyH_take (i := 44) (oi := ({ dst := some 82, op := Go.Op.pick (Go.Operand.tmp 77) (Go.Operand.tmp 81) (Go.Operand.const (Go.Value.bool false)), type := 4, pos := "law.go:22", after := #[{ on := 39, ground := Go.Ground.data }, { on := 43, ground := Go.Ground.data }], guard := none } : Oper)) (v := (.bool true)) rfl (by kernel_rfl) (by kernel_rfl) (by kernel_rfl) (fun _ _ _ h => h) (Or.inl ⟨by rfl, by intro w hSw; (try dsimp only at hSw); go_simp; try with_reducible rfl⟩) hH42 ?_
  simp only [Act.put, List.setIfInBounds_toArray, List.set_cons_zero, List.set_cons_succ]
  refine wpAnyH_take (i := 45) (oi := ({ dst := some 83, op := Go.Op.move (Go.Operand.tmp 82), type := 4, pos := "law.go:22", after := #[{ on := 44, ground := Go.Ground.data }, { on := 42, ground := Go.Ground.chain }], guard := none } : Oper)) (v := (.bool true)) rfl (by kernel_rfl) (by kernel_rfl) (by kernel_rfl) (fun _ _ _ h => h) (Or.inl ⟨by rfl, by intro w hSw; (try dsimp only at hSw); go_simp; try with_reducible rfl⟩) hH42 ?_
  simp only [Act.put, List.setIfInBounds_toArray, List.set_cons_zero, List.set_cons_succ]
  refine wpAnyH_take (i := 48) (oi := ({ dst := some 86, op := Go.Op.load 27 (Go.Operand.tmp 7), type := 27, pos := "law.go:22", after := #[{ on := 45, ground := Go.Ground.guard }], guard := some (45, true) } : Oper)) (v := (.agg #[.int .i64 d7, .int .i64 e7, .int .i64 m7, .string who7, .slice rA7 rn7 rc7, .int .i64 til7, .slice sA7 sn7 sc7, .slice cA7 cn7 cc7, .slice tA7 tn7 tc7])) rfl (by kernel_rfl) (by kernel_rfl) (by kernel_rfl) (fun _ _ _ h => h) (Or.inl ⟨by rfl, by intro w hSw; (try dsimp only at hSw); go_simp; try with_reducible rfl⟩) hH42 ?_
  simp only [Act.put, List.setIfInBounds_toArray, List.set_cons_zero, List.set_cons_succ]
  refine wpAnyH_ready (rs := [46]) (by kernel_rfl) (by simp) ?_
  refine AllReadyH.cons (o := ({ dst := some 84, op := Go.Op.buildSlice 22 1 #[(0, Go.Operand.const (Go.Value.int Go.IntKind.u8 107))], type := 22, pos := "law.go:22", after := #[{ on := 45, ground := Go.Ground.guard }], guard := some (45, true) } : Oper)) rfl (fun K hK => ?_) AllReadyH.nil
  go_simp
  refine hK.out _ _ (HS.out _ (BQ16.out.alloc BQ16.out.size _)) (fun hH46 => ?_)
  clear hK K hH42
  try simp only [Act.put, List.setIfInBounds_toArray, List.set_cons_zero, List.set_cons_succ]
  refine wpAnyH_ready (rs := [47]) (by kernel_rfl) (by simp) ?_
  refine AllReadyH.cons (o := ({ dst := some 85, op := Go.Op.convert 22 22 (Go.Operand.tmp 84), type := 22, pos := "law.go:22", after := #[{ on := 46, ground := Go.Ground.data }, { on := 45, ground := Go.Ground.guard }], guard := some (45, true) } : Oper)) rfl (fun K hK => ?_) AllReadyH.nil
  go_simp
  refine hK.out _ _ (HS.out _ (BQ16.out.alloc BQ16.out.size _)) (fun hH47 => ?_)
  clear hK K hH46
  try simp only [Act.put, List.setIfInBounds_toArray, List.set_cons_zero, List.set_cons_succ]
  refine wpAnyH_ready (rs := [49]) (by kernel_rfl) (by simp) ?_
  refine AllReadyH.cons (o := ({ dst := some 87, op := Go.Op.call { callee := Go.Callee.value (Go.Operand.func 41), args := #[Go.Operand.tmp 85, Go.Operand.tmp 86], argTypes := #[22, 27] }, type := 30, pos := "law.go:22", after := #[{ on := 47, ground := Go.Ground.data }, { on := 48, ground := Go.Ground.data }, { on := 45, ground := Go.Ground.chain }, { on := 45, ground := Go.Ground.guard }], guard := some (45, true) } : Oper)) rfl (fun K hK => ?_) AllReadyH.nil
  rw [if_pos (by rfl)]
  go_simp
  refine (HVE1.out _ BQ16.out).mono ?_
  rintro er w17 ⟨rfl, b17⟩
  have BQ17 := hid (BQ16.out.trans (b17.mono BQ16.out.size))
  refine hK.out _ _ (HS.out _ BQ17.out) (fun hH49 => ?_)
  clear hK K hH47 b17
  try simp only [Act.put, List.setIfInBounds_toArray, List.set_cons_zero, List.set_cons_succ]
  refine wpAnyH_take (i := 50) (oi := ({ dst := some 88, op := Go.Op.binOp BinOp.eql 30 (Go.Operand.tmp 87) (Go.Operand.const (Go.Value.int Go.IntKind.i64 0)) 30, type := 4, pos := "law.go:22", after := #[{ on := 49, ground := Go.Ground.data }, { on := 45, ground := Go.Ground.guard }], guard := some (45, true) } : Oper)) (v := (.bool true)) rfl (by kernel_rfl) (by kernel_rfl) (by kernel_rfl) (fun _ _ _ h => h) (Or.inl ⟨by rfl, by intro w hSw; (try dsimp only at hSw); go_simp; try with_reducible rfl⟩) hH49 ?_
  simp only [Act.put, List.setIfInBounds_toArray, List.set_cons_zero, List.set_cons_succ]
  refine wpAnyH_take (i := 51) (oi := ({ dst := some 89, op := Go.Op.pick (Go.Operand.tmp 83) (Go.Operand.tmp 88) (Go.Operand.const (Go.Value.bool false)), type := 4, pos := "law.go:22", after := #[{ on := 45, ground := Go.Ground.data }, { on := 50, ground := Go.Ground.data }], guard := none } : Oper)) (v := (.bool true)) rfl (by kernel_rfl) (by kernel_rfl) (by kernel_rfl) (fun _ _ _ h => h) (Or.inl ⟨by rfl, by intro w hSw; (try dsimp only at hSw); go_simp; try with_reducible rfl⟩) hH49 ?_
  simp only [Act.put, List.setIfInBounds_toArray, List.set_cons_zero, List.set_cons_succ]
  refine wpAnyH_take (i := 52) (oi := ({ dst := some 90, op := Go.Op.move (Go.Operand.tmp 89), type := 4, pos := "law.go:22", after := #[{ on := 51, ground := Go.Ground.data }, { on := 49, ground := Go.Ground.chain }], guard := none } : Oper)) (v := (.bool true)) rfl (by kernel_rfl) (by kernel_rfl) (by kernel_rfl) (fun _ _ _ h => h) (Or.inl ⟨by rfl, by intro w hSw; (try dsimp only at hSw); go_simp; try with_reducible rfl⟩) hH49 ?_
  simp only [Act.put, List.setIfInBounds_toArray, List.set_cons_zero, List.set_cons_succ]
  refine wpAnyH_take (i := 55) (oi := ({ dst := some 93, op := Go.Op.load 27 (Go.Operand.tmp 7), type := 27, pos := "law.go:22", after := #[{ on := 52, ground := Go.Ground.guard }], guard := some (52, true) } : Oper)) (v := (.agg #[.int .i64 d7, .int .i64 e7, .int .i64 m7, .string who7, .slice rA7 rn7 rc7, .int .i64 til7, .slice sA7 sn7 sc7, .slice cA7 cn7 cc7, .slice tA7 tn7 tc7])) rfl (by kernel_rfl) (by kernel_rfl) (by kernel_rfl) (fun _ _ _ h => h) (Or.inl ⟨by rfl, by intro w hSw; (try dsimp only at hSw); go_simp; try with_reducible rfl⟩) hH49 ?_
  simp only [Act.put, List.setIfInBounds_toArray, List.set_cons_zero, List.set_cons_succ]
  refine wpAnyH_ready (rs := [53]) (by kernel_rfl) (by simp) ?_
  refine AllReadyH.cons (o := ({ dst := some 91, op := Go.Op.buildSlice 22 1 #[(0, Go.Operand.const (Go.Value.int Go.IntKind.u8 108))], type := 22, pos := "law.go:22", after := #[{ on := 52, ground := Go.Ground.guard }], guard := some (52, true) } : Oper)) rfl (fun K hK => ?_) AllReadyH.nil
  go_simp
  refine hK.out _ _ (HS.out _ (BQ17.out.alloc BQ17.out.size _)) (fun hH53 => ?_)
  clear hK K hH49
  try simp only [Act.put, List.setIfInBounds_toArray, List.set_cons_zero, List.set_cons_succ]
  refine wpAnyH_ready (rs := [54]) (by kernel_rfl) (by simp) ?_
  refine AllReadyH.cons (o := ({ dst := some 92, op := Go.Op.convert 22 22 (Go.Operand.tmp 91), type := 22, pos := "law.go:22", after := #[{ on := 53, ground := Go.Ground.data }, { on := 52, ground := Go.Ground.guard }], guard := some (52, true) } : Oper)) rfl (fun K hK => ?_) AllReadyH.nil
  go_simp
  refine hK.out _ _ (HS.out _ (BQ17.out.alloc BQ17.out.size _)) (fun hH54 => ?_)
  clear hK K hH53
  try simp only [Act.put, List.setIfInBounds_toArray, List.set_cons_zero, List.set_cons_succ]
  refine wpAnyH_ready (rs := [56]) (by kernel_rfl) (by simp) ?_
  refine AllReadyH.cons (o := ({ dst := some 94, op := Go.Op.call { callee := Go.Callee.value (Go.Operand.func 41), args := #[Go.Operand.tmp 92, Go.Operand.tmp 93], argTypes := #[22, 27] }, type := 30, pos := "law.go:22", after := #[{ on := 54, ground := Go.Ground.data }, { on := 55, ground := Go.Ground.data }, { on := 52, ground := Go.Ground.chain }, { on := 52, ground := Go.Ground.guard }], guard := some (52, true) } : Oper)) rfl (fun K hK => ?_) AllReadyH.nil
  rw [if_pos (by rfl)]
  go_simp
  refine (HVE2.out _ BQ17.out).mono ?_
  rintro er w18 ⟨rfl, b18⟩
  have BQ18 := hid (BQ17.out.trans (b18.mono BQ17.out.size))
  refine hK.out _ _ (HS.out _ BQ18.out) (fun hH56 => ?_)
  clear hK K hH54 b18
  try simp only [Act.put, List.setIfInBounds_toArray, List.set_cons_zero, List.set_cons_succ]
  refine wpAnyH_take (i := 57) (oi := ({ dst := some 95, op := Go.Op.binOp BinOp.eql 30 (Go.Operand.tmp 94) (Go.Operand.const (Go.Value.int Go.IntKind.i64 20)) 30, type := 4, pos := "law.go:22", after := #[{ on := 56, ground := Go.Ground.data }, { on := 52, ground := Go.Ground.guard }], guard := some (52, true) } : Oper)) (v := (.bool true)) rfl (by kernel_rfl) (by kernel_rfl) (by kernel_rfl) (fun _ _ _ h => h) (Or.inl ⟨by rfl, by intro w hSw; (try dsimp only at hSw); go_simp; try with_reducible rfl⟩) hH56 ?_
  simp only [Act.put, List.setIfInBounds_toArray, List.set_cons_zero, List.set_cons_succ]
  refine wpAnyH_take (i := 58) (oi := ({ dst := some 96, op := Go.Op.pick (Go.Operand.tmp 90) (Go.Operand.tmp 95) (Go.Operand.const (Go.Value.bool false)), type := 4, pos := "law.go:22", after := #[{ on := 52, ground := Go.Ground.data }, { on := 57, ground := Go.Ground.data }], guard := none } : Oper)) (v := (.bool true)) rfl (by kernel_rfl) (by kernel_rfl) (by kernel_rfl) (fun _ _ _ h => h) (Or.inl ⟨by rfl, by intro w hSw; (try dsimp only at hSw); go_simp; try with_reducible rfl⟩) hH56 ?_
  simp only [Act.put, List.setIfInBounds_toArray, List.set_cons_zero, List.set_cons_succ]
  refine wpAnyH_take (i := 59) (oi := ({ dst := some 0, op := Go.Op.assign (Go.Operand.tmp 96), type := 4, pos := "law.go:22", after := #[{ on := 58, ground := Go.Ground.data }, { on := 56, ground := Go.Ground.chain }, { on := 0, ground := Go.Ground.phase }, { on := 1, ground := Go.Ground.phase }, { on := 2, ground := Go.Ground.phase }, { on := 3, ground := Go.Ground.phase }, { on := 4, ground := Go.Ground.phase }, { on := 5, ground := Go.Ground.phase }, { on := 6, ground := Go.Ground.phase }, { on := 7, ground := Go.Ground.phase }, { on := 8, ground := Go.Ground.phase }, { on := 9, ground := Go.Ground.phase }, { on := 10, ground := Go.Ground.phase }, { on := 11, ground := Go.Ground.phase }, { on := 12, ground := Go.Ground.phase }, { on := 13, ground := Go.Ground.phase }, { on := 14, ground := Go.Ground.phase }, { on := 15, ground := Go.Ground.phase }, { on := 16, ground := Go.Ground.phase }, { on := 17, ground := Go.Ground.phase }, { on := 18, ground := Go.Ground.phase }, { on := 19, ground := Go.Ground.phase }, { on := 20, ground := Go.Ground.phase }, { on := 21, ground := Go.Ground.phase }, { on := 22, ground := Go.Ground.phase }, { on := 23, ground := Go.Ground.phase }, { on := 24, ground := Go.Ground.phase }, { on := 25, ground := Go.Ground.phase }, { on := 26, ground := Go.Ground.phase }, { on := 27, ground := Go.Ground.phase }, { on := 28, ground := Go.Ground.phase }, { on := 29, ground := Go.Ground.phase }, { on := 30, ground := Go.Ground.phase }, { on := 31, ground := Go.Ground.phase }, { on := 32, ground := Go.Ground.phase }, { on := 33, ground := Go.Ground.phase }, { on := 34, ground := Go.Ground.phase }, { on := 35, ground := Go.Ground.phase }, { on := 36, ground := Go.Ground.phase }, { on := 37, ground := Go.Ground.phase }, { on := 38, ground := Go.Ground.phase }, { on := 39, ground := Go.Ground.phase }, { on := 40, ground := Go.Ground.phase }, { on := 41, ground := Go.Ground.phase }, { on := 42, ground := Go.Ground.phase }, { on := 43, ground := Go.Ground.phase }, { on := 44, ground := Go.Ground.phase }, { on := 45, ground := Go.Ground.phase }, { on := 46, ground := Go.Ground.phase }, { on := 47, ground := Go.Ground.phase }, { on := 48, ground := Go.Ground.phase }, { on := 49, ground := Go.Ground.phase }, { on := 50, ground := Go.Ground.phase }, { on := 51, ground := Go.Ground.phase }, { on := 52, ground := Go.Ground.phase }, { on := 53, ground := Go.Ground.phase }, { on := 54, ground := Go.Ground.phase }, { on := 55, ground := Go.Ground.phase }, { on := 56, ground := Go.Ground.phase }, { on := 57, ground := Go.Ground.phase }, { on := 58, ground := Go.Ground.phase }], guard := none } : Oper)) (v := (.bool true)) rfl (by kernel_rfl) (by kernel_rfl) (by kernel_rfl) (fun _ _ _ h => h) (Or.inl ⟨by rfl, by intro w hSw; (try dsimp only at hSw); go_simp; try with_reducible rfl⟩) hH56 ?_
  simp only [Act.put, List.setIfInBounds_toArray, List.set_cons_zero, List.set_cons_succ]
  refine wpAnyH_done (by kernel_rfl) ?_ _
  clear hH56
  all_goals
    go_wp2_with fail
    go_ret
    exact ⟨rfl, HB12.out.trans (BQ18.out.mono HB12.out.size)⟩
end Go.Proofs.YtaadmgbmaekicaaGreatDoor.Sh
