/-
  The walk of VectorReads (the contract of lives is its premise). Written by mk_vereads.py.
-/
import Derived.Test.YtkaakbgpkpkeeaaVeLawC
namespace Go.Proofs.Ytkaakbgpkpkeeaa.Sh
open Go Go.RowKit

set_option linter.unusedSimpArgs false
set_option linter.unusedVariables false
/-- The document's cursor over bytes that came in. -/
theorem rcu_box10 (w : World) (A : Option Addr) (l : List UInt8) (n c B : Nat) (hn : l.length = n) (hc : n ≤ c) (hL : n ≤ 1099511627776) (hb : Byt w B A l) (hB : B ≤ w.heap.size) :
    Cu 42 (w.alloc (.cells #[.slice A n c, .int .i64 0, .int .i64 0] 42)) 0 B w.heap.size A n c l 0 0 :=
  ⟨heap_alloc_new w _, hb.below ((Below.refl _ _).alloc hB _), fun _ _ => Nat.zero_le _, hB, hn, hc, hL, Nat.zero_le _⟩
/-- Numbers that were told, beside a cursor that is turned. -/
theorem Els.cu {w w' : World} {A : Option Addr} {v : List Int} {g : Nat} (h : Els encN w w.heap.size A v) (hf : ∀ ad, A = some ad → ad.block ≠ g) (hg : w.grownBy w' (some g)) : Els encN w' w'.heap.size A v := fun hn => by
  obtain ⟨ad, e, h1, h2⟩ := h hn
  refine ⟨ad, e, Nat.lt_of_lt_of_le h1 hg.size, fun i u hu => ?_⟩
  rw [← h2 i u hu]
  exact hg.cell_far _ (by rw [block_add]; exact h1) (fun e2 => by injection e2 with e2; rw [block_add] at e2; exact hf ad e e2)
theorem ownN_far {w : World} {B m c g : Nat} {A : Option Addr} {l : List Int} (h : Own (E := encN) w B 3 (.slice A m c) l) (hg : g < B) : ∀ ad, A = some ad → ad.block ≠ g := fun ad e => by
  subst e
  have := (h.lt ad.block rfl).1
  omega
theorem readVec_len0 {l : List UInt8} {p q : Nat} {e e' : Int} {v : List Int} (h : readVec l p e = (v, q, e')) : v.length ≤ 16 ∧ True := by
  unfold readVec at h
  simp only [Prod.mk.injEq] at h
  obtain ⟨h1, -, -⟩ := h
  have hb := numStep_b l p e 0 16 (by omega) (by omega)
  split at h1
  · refine ⟨?_, trivial⟩
    rw [← h1, vecNums_len]
    omega
  · subst h1; simp
theorem readVec_len {l : List UInt8} {p q : Nat} {e e' : Int} {v : List Int} (h : readVec l p e = (v, q, e')) : v.length ≤ 16 := (readVec_len0 h).1
set_option maxRecDepth 20000 in
set_option maxHeartbeats 8000000 in
theorem vectorReads_walk (hlv : Lives10) (A : Option Addr) (l : List UInt8) (n k : Nat) (hn : l.length = n) (hk : n ≤ k) (hk2 : k ≤ 9223372036854775807) (w : World) (hb : Byt w w.heap.size A l) :
    Calls Try.prog 8 #[.slice A n k] w fun e w' => e = .returned (.bool true) ∧ Below w.heap.size w w' := by
  have HLV := hid hlv
  clear hlv
  by_cases h20 : 200 < n
  · obtain ⟨x, hxe⟩ : ∃ x, l.take 200 = x := ⟨_, rfl⟩
    have hxl : x.length = 200 := by rw [← hxe, List.length_take]; omega
    have y0 : Byt w w.heap.size A x := by rw [← hxe]; exact hb.head (hi := 200)
    have h20' : (200 : Int) < (n : Int) := by omega
    have h20k : 200 ≤ k := by omega
    clear hxe
    have HXL : Hid (x.length = 200) := hid hxl
    obtain ⟨v, q, e, hx⟩ : ∃ v q e, readVec x 0 0 = (v, q, e) := ⟨_, _, _, rfl⟩
    go_enter Try.func8, Try.ntmps8
    go_wp2_with fail
    refine (cu_new (c := k) hxl (by omega) w y0).mono ?_
    rintro er w1 ⟨g, A1, k1, rfl, X1, hg, b1⟩
    have y1 := y0.below b1
    have hgl := X1.lt
    have Z2 := rcu_box10 w1 A x 200 k w.heap.size hxl (by omega) (by omega) y1 b1.size
    have X2 := X1.below ((Below.refl _ _).alloc (Nat.le_refl _) (.cells #[.slice A 200 k, .int .i64 0, .int .i64 0] 42)) hgl
    have b2 := b1.alloc b1.size (.cells #[.slice A 200 k, .int .i64 0, .int .i64 0] 42)
    obtain ⟨gx, hgx⟩ : ∃ gx, gx = w1.heap.size := ⟨_, rfl⟩
    rw [← hgx] at Z2
    have hgg : g < gx := by omega
    have hgw : w.heap.size ≤ gx := by have := b1.size; omega
    have HY := hid (fun W (hW : Below w.heap.size w W) => (y0.below hW).more hW.size)
    clear X1 y1 b1 hb y0 hn hxl
    go_wp2_with fail
    rw [← hgx]
    obtain ⟨w2, hw2⟩ : ∃ w2, w2 = w1.alloc (.cells #[.slice A 200 k, .int .i64 0, .int .i64 0] 42) := ⟨_, rfl⟩
    rw [← hw2] at X2 Z2 b2 ⊢
    have HSX : Hid (w2.heap.size = gx + 1) := hid (by rw [hw2, hgx]; simp)
    clear hw2 hgx hgl
    have C1 := hid (read10_any X2)
    have HZ2 := hid Z2
    have HB2 := hid b2
    have HRV := hid hx
    rw [hx] at C1
    clear X2 Z2 b2 hx
    refine C1.out.mono ?_
    rintro er w3 ⟨Av, mv, cv, rfl, hmv, ho, X3, G3⟩
    have HX3 := hid X3
    have HZ3 := hid (HZ2.out.other G3 (by omega) (.inr (by omega)))
    have HB3 := hid (HB2.out.grown G3 HB2.out.size (fun b e => by injection e with e; omega))
    have HV3 := hid (ho.els1)
    have HMV := hid hmv
    have HFX : Hid (∀ ad, Av = some ad → ad.block ≠ gx) := hid (ho.far1 (by have := HSX.out; omega))
    clear X3 G3 ho hmv C1 HZ2 HB2
    go_wp2_with fail
    have C2 := hid (refRead10_any HZ3.out)
    rw [HRV.out] at C2
    refine C2.out.mono ?_
    rintro er w4 ⟨Au, mu, cu, rfl, hmu, ho, Z4, G4⟩
    have HZ4 := hid Z4
    have HX4 := hid (HX3.out.other G4 (by omega) (.inr (by omega)))
    have HB4 := hid (HB3.out.grown G4 HB3.out.size (fun b e => by injection e with e; omega))
    have HU4 := hid (ho.els1)
    have HV4 := hid (HV3.out.cu HFX.out G4)
    have hme : mu = mv := hmu.symm.trans HMV.out
    subst hme
    have hvl : mu ≤ 16 := by rw [← HMV.out]; exact readVec_len HRV.out
    clear Z4 G4 ho hmu C2 HX3 HZ3 HB3 HV3
    go_wp2_with fail
    refine (sameB_any Av Au v v mu mu cv cu HMV.out HMV.out (by omega) (by omega) _ HV4.out HU4.out).mono ?_
    rintro er w5 ⟨rfl, hb⟩
    rw [show decide (v = v) = true from decide_eq_true rfl]
    have HB5 := hid (HB4.out.trans (hb.mono HB4.out.size))
    have HX5 := hid (HX4.out.below hb HX4.out.lt)
    have HZ5 := hid (HZ4.out.below hb HZ4.out.lt)
    have HV5 := hid ((HV4.out.below hb).more hb.size)
    clear hb HX4 HZ4 HB4 HU4 HV4
    have z1 := HZ5.out.row.c1
    have z2 := HZ5.out.row.c2
    have HXD := hid (HX5.out.below (Below.refl w5.heap.size w5).drew HX5.out.lt)
    go_wp2_with fail
    go_quiet ((first
      | exact quiet_left (place_any _ _ _ _ _ _ _ (HX5.out.drewN _).row)
      | exact quiet_left (err_any _ _ _ _ _ _ _ (HX5.out.drewN _).row)))
    obtain ⟨w6, hw6⟩ : ∃ w6, w6 = w5.drewN nq := ⟨_, rfl⟩
    rw [← hw6]
    have HX6 : Hid (Cu 54 w6 w.heap.size g g A1 200 k1 x q e) := hid (by rw [hw6]; exact HX5.out.drewN nq)
    have HZ6 : Hid (Cu 42 w6 0 w.heap.size gx A 200 k x q e) := hid (by rw [hw6]; exact HZ5.out.drewN nq)
    have HB6 : Hid (Below w.heap.size w w6) := hid (by rw [hw6]; exact below_drewN HB5.out nq)
    have HV6 : Hid (Els encN w6 w6.heap.size Av v) := hid (by rw [hw6]; exact HV5.out)
    clear hw6 HX5 HZ5 HB5 HV5 z1 z2 HXD
    by_cases he : e = 0
    · subst he
      obtain ⟨hnv, htk, hql⟩ := readVec_take HRV.out
      have hqn : q ≤ 200 := by rw [← HXL.out]; exact hql
      have hqk : (q : Int) ≤ (k : Int) := by omega
      have hq0 : (0 : Int) ≤ (q : Int) := Int.natCast_nonneg _
      have HEL : Hid ((encV v).length = q) := hid (by rw [← htk, List.length_take]; omega)
      have HTK := hid htk
      have HNV := hid hnv
      have hq9 : q ≤ 1000 := by rw [← HEL.out]; exact encV_len hnv
      clear hnv htk hql
      go_wp2_with fail
      refine (err_any _ _ _ _ _ _ _ HX6.out.row).mono ?_
      rintro er wq ⟨rfl, hw⟩
      have hw2 : w6 = wq := hw
      subst hw2
      clear hw
      go_wp2_with fail
      refine (put10_any none [] 0 0 rfl (by omega) Av v mu cv HMV.out (by omega) _ Byt.nil HV6.out).mono ?_
      rintro er w7 ⟨hr, hb⟩
      obtain ⟨Ap, Np, cp, rfl, hNp, ho⟩ : ∃ (A' : Option Addr) (N c' : Nat), er = .returned (.tuple #[.slice A' N c', .int .i64 0]) ∧ ([] ++ encV v).length = N ∧ OwnB w7 w6.heap.size (.slice A' N c') N ([] ++ encV v) := by
        rcases hr with h | h
        · exact absurd HNV.out h.1
        · exact h.2
      rw [List.nil_append] at hNp ho
      have hNq : Np = q := hNp.symm.trans HEL.out
      subst hNq
      have HB7 := hid (HB6.out.trans (hb.mono HB6.out.size))
      have HZ7 := hid (HZ6.out.below hb HZ6.out.lt)
      have HP7 := hid ho.byt
      have HY7 : Hid (Byt w7 w7.heap.size A (encV v)) := hid (by rw [← HTK.out]; exact (HY.out w7 HB7.out).head)
      have z1 := HZ7.out.row.c1
      clear hr hb ho hNp HX6 HZ6 HB6 HV6
      go_wp2_with fail
      refine (sameE_any Ap A (encV v) Np cp k HEL.out (by omega) _ HP7.out HY7.out).mono ?_
      rintro er w8 ⟨rfl, hb⟩
      have HB8 := hid (HB7.out.trans (hb.mono HB7.out.size))
      clear hb z1
      go_wp2_with fail
      refine (HLV.out _).mono ?_
      rintro er w9 ⟨rfl, hb⟩
      have HB9 := hid (HB8.out.trans (hb.mono HB8.out.size))
      clear hb
      go_wp2_with fail
      go_ret
      exact ⟨rfl, HB9.out⟩
    · go_wp2_with fail
      refine (err_any _ _ _ _ _ _ _ HX6.out.row).mono ?_
      rintro er wq ⟨rfl, hw⟩
      have hw2 : w6 = wq := hw
      subst hw2
      clear hw
      go_wp2_with fail
      refine (HLV.out _).mono ?_
      rintro er w9 ⟨rfl, hb⟩
      have HB9 := hid (HB6.out.trans (hb.mono HB6.out.size))
      clear hb
      go_wp2_with fail
      go_ret
      exact ⟨rfl, HB9.out⟩
  · obtain ⟨x, hxe⟩ : ∃ x, l = x := ⟨_, rfl⟩
    have hxl : x.length = n := by rw [← hxe]; exact hn
    have y0 : Byt w w.heap.size A x := by rw [← hxe]; exact hb
    have h20' : ¬ (200 : Int) < (n : Int) := by omega
    clear hxe
    have HXL : Hid (x.length = n) := hid hxl
    obtain ⟨v, q, e, hx⟩ : ∃ v q e, readVec x 0 0 = (v, q, e) := ⟨_, _, _, rfl⟩
    go_enter Try.func8, Try.ntmps8
    go_wp2_with fail
    refine (cu_new (c := k) hxl (by omega) w y0).mono ?_
    rintro er w1 ⟨g, A1, k1, rfl, X1, hg, b1⟩
    have y1 := y0.below b1
    have hgl := X1.lt
    have Z2 := rcu_box10 w1 A x n k w.heap.size hxl (by omega) (by omega) y1 b1.size
    have X2 := X1.below ((Below.refl _ _).alloc (Nat.le_refl _) (.cells #[.slice A n k, .int .i64 0, .int .i64 0] 42)) hgl
    have b2 := b1.alloc b1.size (.cells #[.slice A n k, .int .i64 0, .int .i64 0] 42)
    obtain ⟨gx, hgx⟩ : ∃ gx, gx = w1.heap.size := ⟨_, rfl⟩
    rw [← hgx] at Z2
    have hgg : g < gx := by omega
    have hgw : w.heap.size ≤ gx := by have := b1.size; omega
    have HY := hid (fun W (hW : Below w.heap.size w W) => (y0.below hW).more hW.size)
    clear X1 y1 b1 hb y0 hn hxl
    go_wp2_with fail
    rw [← hgx]
    obtain ⟨w2, hw2⟩ : ∃ w2, w2 = w1.alloc (.cells #[.slice A n k, .int .i64 0, .int .i64 0] 42) := ⟨_, rfl⟩
    rw [← hw2] at X2 Z2 b2 ⊢
    have HSX : Hid (w2.heap.size = gx + 1) := hid (by rw [hw2, hgx]; simp)
    clear hw2 hgx hgl
    have C1 := hid (read10_any X2)
    have HZ2 := hid Z2
    have HB2 := hid b2
    have HRV := hid hx
    rw [hx] at C1
    clear X2 Z2 b2 hx
    refine C1.out.mono ?_
    rintro er w3 ⟨Av, mv, cv, rfl, hmv, ho, X3, G3⟩
    have HX3 := hid X3
    have HZ3 := hid (HZ2.out.other G3 (by omega) (.inr (by omega)))
    have HB3 := hid (HB2.out.grown G3 HB2.out.size (fun b e => by injection e with e; omega))
    have HV3 := hid (ho.els1)
    have HMV := hid hmv
    have HFX : Hid (∀ ad, Av = some ad → ad.block ≠ gx) := hid (ho.far1 (by have := HSX.out; omega))
    clear X3 G3 ho hmv C1 HZ2 HB2
    go_wp2_with fail
    have C2 := hid (refRead10_any HZ3.out)
    rw [HRV.out] at C2
    refine C2.out.mono ?_
    rintro er w4 ⟨Au, mu, cu, rfl, hmu, ho, Z4, G4⟩
    have HZ4 := hid Z4
    have HX4 := hid (HX3.out.other G4 (by omega) (.inr (by omega)))
    have HB4 := hid (HB3.out.grown G4 HB3.out.size (fun b e => by injection e with e; omega))
    have HU4 := hid (ho.els1)
    have HV4 := hid (HV3.out.cu HFX.out G4)
    have hme : mu = mv := hmu.symm.trans HMV.out
    subst hme
    have hvl : mu ≤ 16 := by rw [← HMV.out]; exact readVec_len HRV.out
    clear Z4 G4 ho hmu C2 HX3 HZ3 HB3 HV3
    go_wp2_with fail
    refine (sameB_any Av Au v v mu mu cv cu HMV.out HMV.out (by omega) (by omega) _ HV4.out HU4.out).mono ?_
    rintro er w5 ⟨rfl, hb⟩
    rw [show decide (v = v) = true from decide_eq_true rfl]
    have HB5 := hid (HB4.out.trans (hb.mono HB4.out.size))
    have HX5 := hid (HX4.out.below hb HX4.out.lt)
    have HZ5 := hid (HZ4.out.below hb HZ4.out.lt)
    have HV5 := hid ((HV4.out.below hb).more hb.size)
    clear hb HX4 HZ4 HB4 HU4 HV4
    have z1 := HZ5.out.row.c1
    have z2 := HZ5.out.row.c2
    have HXD := hid (HX5.out.below (Below.refl w5.heap.size w5).drew HX5.out.lt)
    go_wp2_with fail
    go_quiet ((first
      | exact quiet_left (place_any _ _ _ _ _ _ _ (HX5.out.drewN _).row)
      | exact quiet_left (err_any _ _ _ _ _ _ _ (HX5.out.drewN _).row)))
    obtain ⟨w6, hw6⟩ : ∃ w6, w6 = w5.drewN nq := ⟨_, rfl⟩
    rw [← hw6]
    have HX6 : Hid (Cu 54 w6 w.heap.size g g A1 n k1 x q e) := hid (by rw [hw6]; exact HX5.out.drewN nq)
    have HZ6 : Hid (Cu 42 w6 0 w.heap.size gx A n k x q e) := hid (by rw [hw6]; exact HZ5.out.drewN nq)
    have HB6 : Hid (Below w.heap.size w w6) := hid (by rw [hw6]; exact below_drewN HB5.out nq)
    have HV6 : Hid (Els encN w6 w6.heap.size Av v) := hid (by rw [hw6]; exact HV5.out)
    clear hw6 HX5 HZ5 HB5 HV5 z1 z2 HXD
    by_cases he : e = 0
    · subst he
      obtain ⟨hnv, htk, hql⟩ := readVec_take HRV.out
      have hqn : q ≤ n := by rw [← HXL.out]; exact hql
      have hqk : (q : Int) ≤ (k : Int) := by omega
      have hq0 : (0 : Int) ≤ (q : Int) := Int.natCast_nonneg _
      have HEL : Hid ((encV v).length = q) := hid (by rw [← htk, List.length_take]; omega)
      have HTK := hid htk
      have HNV := hid hnv
      have hq9 : q ≤ 1000 := by rw [← HEL.out]; exact encV_len hnv
      clear hnv htk hql
      go_wp2_with fail
      refine (err_any _ _ _ _ _ _ _ HX6.out.row).mono ?_
      rintro er wq ⟨rfl, hw⟩
      have hw2 : w6 = wq := hw
      subst hw2
      clear hw
      go_wp2_with fail
      refine (put10_any none [] 0 0 rfl (by omega) Av v mu cv HMV.out (by omega) _ Byt.nil HV6.out).mono ?_
      rintro er w7 ⟨hr, hb⟩
      obtain ⟨Ap, Np, cp, rfl, hNp, ho⟩ : ∃ (A' : Option Addr) (N c' : Nat), er = .returned (.tuple #[.slice A' N c', .int .i64 0]) ∧ ([] ++ encV v).length = N ∧ OwnB w7 w6.heap.size (.slice A' N c') N ([] ++ encV v) := by
        rcases hr with h | h
        · exact absurd HNV.out h.1
        · exact h.2
      rw [List.nil_append] at hNp ho
      have hNq : Np = q := hNp.symm.trans HEL.out
      subst hNq
      have HB7 := hid (HB6.out.trans (hb.mono HB6.out.size))
      have HZ7 := hid (HZ6.out.below hb HZ6.out.lt)
      have HP7 := hid ho.byt
      have HY7 : Hid (Byt w7 w7.heap.size A (encV v)) := hid (by rw [← HTK.out]; exact (HY.out w7 HB7.out).head)
      have z1 := HZ7.out.row.c1
      clear hr hb ho hNp HX6 HZ6 HB6 HV6
      go_wp2_with fail
      refine (sameE_any Ap A (encV v) Np cp k HEL.out (by omega) _ HP7.out HY7.out).mono ?_
      rintro er w8 ⟨rfl, hb⟩
      have HB8 := hid (HB7.out.trans (hb.mono HB7.out.size))
      clear hb z1
      go_wp2_with fail
      refine (HLV.out _).mono ?_
      rintro er w9 ⟨rfl, hb⟩
      have HB9 := hid (HB8.out.trans (hb.mono HB8.out.size))
      clear hb
      go_wp2_with fail
      go_ret
      exact ⟨rfl, HB9.out⟩
    · go_wp2_with fail
      refine (err_any _ _ _ _ _ _ _ HX6.out.row).mono ?_
      rintro er wq ⟨rfl, hw⟩
      have hw2 : w6 = wq := hw
      subst hw2
      clear hw
      go_wp2_with fail
      refine (HLV.out _).mono ?_
      rintro er w9 ⟨rfl, hb⟩
      have HB9 := hid (HB6.out.trans (hb.mono HB6.out.size))
      clear hb
      go_wp2_with fail
      go_ret
      exact ⟨rfl, HB9.out⟩
end Go.Proofs.Ytkaakbgpkpkeeaa.Sh
