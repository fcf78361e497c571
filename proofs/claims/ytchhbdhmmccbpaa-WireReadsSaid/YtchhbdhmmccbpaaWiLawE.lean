/-
  The walk of WireReads.
-/
import Derived.Test.YtchhbdhmmccbpaaWiLawB
namespace Go.Proofs.Ytchhbdhmmccbpaa.Sh
open Go Go.RowKit

/-- What is asked, in memory: three cells each. -/
def AskAt (w : World) (B : Nat) (T : Option Addr) (qs : List (Int × Int × Int)) : Prop :=
  0 < qs.length → ∃ ad, T = some ad ∧ ad.block < B ∧ ∀ j q, qs[j]? = some q → w.cell? (ad.add (3 * j)) = some (.int .i64 q.1) ∧ w.cell? (ad.add (3 * j + 1)) = some (.int .i64 q.2.1) ∧ w.cell? (ad.add (3 * j + 2)) = some (.int .i64 q.2.2)
theorem AskAt.below {w w' : World} {B : Nat} {T : Option Addr} {qs : List (Int × Int × Int)} (h : AskAt w B T qs) (hb : Below B w w') : AskAt w' B T qs := fun hn => by
  obtain ⟨ad, e, hB, hc⟩ := h hn
  have hk : ∀ k, w'.cell? (ad.add k) = w.cell? (ad.add k) := fun k => hb.cell (by rw [block_add]; exact hB)
  exact ⟨ad, e, hB, fun j q hq => by rw [hk, hk, hk]; exact hc j q hq⟩

set_option maxHeartbeats 8000000 in
set_option maxRecDepth 4000 in
theorem wireReads_walk (A T : Option Addr) (l : List UInt8) (qs : List (Int × Int × Int)) (n c k f : Nat) (hn : l.length = n) (hc : n ≤ c) (hk : qs.length = k) (hkf : k ≤ f) (hf : f ≤ 9223372036854775807)
    (w : World) (hb : Byt w w.heap.size A l) (hq : AskAt w w.heap.size T qs) :
    Calls Try.prog 4 #[.slice A n c, .slice T k f] w fun e w' => e = .returned (.bool true) ∧ Below w.heap.size w w' := by
  have F1 := hid (few_any A l n c 200 hn hc w)
  obtain ⟨hb1, hl1⟩ := hb.few (k := 200) hn
  obtain ⟨l1, hl1'⟩ : ∃ l1, l1 = l.take 200 := ⟨_, rfl⟩
  obtain ⟨n1, hn1⟩ : ∃ n1, n1 = min 200 n := ⟨_, rfl⟩
  rw [← hl1'] at hb1 hl1
  rw [← hn1] at hl1 F1
  have hn200 : n1 ≤ 200 := by omega
  have hnc : n1 ≤ c := by omega
  have HL := hid hl1
  have HY := hid hb1
  have HNEW := hid (cu_new (A := A) (c := c) hl1 (by omega) w hb1)
  have HQ := hid hq
  have HK := hid hk
  have hkm : (k : Int) ≤ 9223372036854775807 := by omega
  clear hn hb hl1' hn1 hb1 hl1 hq hk
  go_enter Try.func4, Try.ntmps4
  go_wp2_with fail
  refine F1.out.mono ?_
  rintro er w' ⟨rfl, rfl⟩
  clear F1
  go_wp2_with fail
  refine HNEW.out.mono ?_
  rintro er w1 ⟨gc, Ac, cc, rfl, C1, hgc, b1⟩
  have lc := C1.lt
  have bx : Below w1.heap.size w1 (w1.alloc (.cells #[.slice A n1 c, .int .i64 0, .int .i64 0] 34)) := (Below.refl _ _).alloc (Nat.le_refl _) _
  have C2 := hid (C1.below bx lc)
  have b2 := hid (b1.trans (bx.mono b1.size))
  have X2 : Hid (Cu 34 (w1.alloc (.cells #[.slice A n1 c, .int .i64 0, .int .i64 0] 34)) 0 w.heap.size w1.heap.size A n1 c l1 0 0) :=
    hid ⟨heap_alloc_new w1 _, HY.out.below b2.out, fun _ _ => Nat.zero_le _, b1.size, HL.out, hnc, by omega, Nat.zero_le _⟩
  have s1 := b1.size
  clear HNEW C1 b1 bx
  go_wp2
  go_loopw [7] (fun i wr => ∃ (j p : Nat) (e : Int), i = .int .i64 (j : Int) ∧ j ≤ 60 ∧ Hid (Cu 49 wr w.heap.size gc gc Ac n1 cc l1 p e) ∧ Hid (Cu 34 wr 0 w.heap.size w1.heap.size A n1 c l1 p e) ∧ Hid (Below w.heap.size w wr)) (fun i _ => 60 - (intOf i).toNat)
  case atStart => exact ⟨0, 0, 0, rfl, by omega, C2, X2, b2⟩
  case round =>
    clear C2 X2 b2
    obtain ⟨j, p, e, rfl, hj, C, X, B⟩ := hrel
    by_cases hlt : j < k ∧ j < 60
    · obtain ⟨hjk, hj60⟩ := hlt
      have hjk' : (j : Int) < (k : Int) := by omega
      have hj60' : (j : Int) < 60 := by omega
      have hj0 : (0 : Int) ≤ (j : Int) := Int.natCast_nonneg _
      obtain ⟨⟨a0, a1, a2⟩, hqj⟩ : ∃ q, qs[j]? = some q := ⟨_, List.getElem?_eq_getElem (by rw [HK.out]; exact hjk)⟩
      obtain ⟨ad, rfl, had, hcells⟩ := HQ.out (by rw [HK.out]; omega)
      obtain ⟨aj, haj⟩ : ∃ aj, aj = ad.add (j * 3) := ⟨_, rfl⟩
      have HAC : Hid (∀ W, Below w.heap.size w W → W.cell? aj = some (.int .i64 a0) ∧ W.cell? ⟨aj.block, aj.off + 1, none⟩ = some (.int .i64 a1) ∧ W.cell? ⟨aj.block, aj.off + 2, none⟩ = some (.int .i64 a2)) := hid (fun W hW => by
        have hk : ∀ k, W.cell? (ad.add k) = w.cell? (ad.add k) := fun k => hW.cell (by rw [block_add]; exact had)
        have e1 : (⟨aj.block, aj.off + 1, none⟩ : Addr) = ad.add (3 * j + 1) := by rw [← add_pos aj 1 (by omega), haj, add_add, Nat.mul_comm]
        have e2 : (⟨aj.block, aj.off + 2, none⟩ : Addr) = ad.add (3 * j + 2) := by rw [← add_pos aj 2 (by omega), haj, add_add, Nat.mul_comm]
        have e0 : aj = ad.add (3 * j) := by rw [haj, Nat.mul_comm]
        rw [e1, e2, e0, hk, hk, hk]
        exact hcells j _ hqj)
      have eA := haj.symm
      clear hcells hqj haj
      obtain ⟨k0, k1, k2⟩ := HAC.out _ B.out
      by_cases ha2 : a0 = 2
      · subst ha2
        obtain ⟨r, hr⟩ : ∃ r, r = (if e = 0 then 11 else e) := ⟨_, rfl⟩
        have NS := cu_fail C.out 11
        rw [← hr] at NS
        have HC := hid NS
        clear NS
        go_wp2_with fail
        refine HC.out.mono ?_
        rintro er w8 ⟨rfl, C8, g8⟩
        have X8 := X.out.other g8 (by omega) (.inr (by omega))
        have b8 := B.out.grown g8 B.out.size (fun k hk => by injection hk with hk; omega)
        have NS := rcu_fail X8 11
        rw [← hr] at NS
        have HX := hid NS
        clear NS HC X8 g8 C X B hr k0 k1 k2
        go_wp2_with fail
        refine HX.out.mono ?_
        rintro er w9 ⟨rfl, X9, g9⟩
        have C9 := C8.other g9 (by omega) (.inr (by omega))
        have b9 := b8.grown g9 b8.size (fun k hk => by injection hk with hk; omega)
        clear HX C8 b8 g9
        have hx2 := X9.row.c2
        have hx1 := X9.row.c1
        have HE := hid (fun m => err_any gc Ac n1 cc p r (w9.drewN m) (C9.row.drewN m))
        have HN1 := hid (fun m => end_any gc Ac n1 cc p r (w9.drewN m) (C9.row.drewN m))
        have HN2 := hid (fun m => refEnd_any w1.heap.size A n1 c p r (w9.drewN m) (X9.row.drewN m))
        have HP := hid (fun m => place_any gc Ac n1 cc p r (w9.drewN m) (C9.row.drewN m))
        have HC9 := hid C9
        have HX9 := hid X9
        have HB9 := hid b9
        clear C9 X9 b9 eA
        obtain ⟨E, hE⟩ : ∃ E, E = endOf n1 p r := ⟨_, rfl⟩
        rw [← hE] at HN1 HN2
        clear hE
        go_wp2_with fail
        go_quiet ((first | (go_at_call 23; exact quiet_left (HE.out _)) | (go_at_call 24; exact quiet_dr (HN1.out _)) | (go_at_call 25; exact quiet_dr (HN2.out _)) | (go_at_call 26; exact quiet_left (HP.out _))))
        go_wp2
        go_roundw
        case rel => exact ⟨j + 1, p, r, by go_num, by omega, hid (HC9.out.drewN _), hid (HX9.out.drewN _), hid (below_drewN HB9.out _)⟩
        case measure => simp [intOf]; omega
      · by_cases ha1 : a0 = 1
        · subst ha1
          obtain ⟨S, q, r, hts⟩ : ∃ S q r, textStep l1 p e a2 = (S, q, r) := ⟨_, _, _, rfl⟩
          have NS := cu_text (C.out.drewN 1) a2
          rw [hts] at NS
          have HC := hid NS
          have BD := hid B.out.drew
          have HTS := hid hts
          clear NS hts
          go_wp2_with fail
          go_region_held3 (fun w' => w'.cell? ⟨aj.block, aj.off + 2, none⟩ = some (.int .i64 a2)) (first | exact (HAC.out _ B9.out).2.2 | exact (HAC.out _ B8.out).2.2 | exact (HAC.out _ BD.out).2.2 | go_keep) (first
            | (go_at_call 19; (refine HC.out.mono ?_); rintro er w8 ⟨rfl, C8, g8⟩; have X8 := (X.out.drewN 1).other g8 (by omega) (.inr (by omega)); have B8 := hid (BD.out.grown g8 BD.out.size (fun k hk => by injection hk with hk; omega)); have NS := rcu_text X8 a2; rw [HTS.out] at NS; have HX := hid NS; have HC8 := hid C8; clear NS X8 g8 C8)
            | (go_at_call 20; (refine HX.out.mono ?_); rintro er w9 ⟨rfl, X9, g9⟩; have C9 := HC8.out.other g9 (by omega) (.inr (by omega)); have b9 := B8.out.grown g9 B8.out.size (fun k hk => by injection hk with hk; omega); have B9 := hid b9; clear g9)
            | fail)
          all_goals clear k0 k1 k2
          all_goals
            have hx2 := X9.row.c2
            have hx1 := X9.row.c1
            have HE := hid (fun m => err_any gc Ac n1 cc q r (w9.drewN m) (C9.row.drewN m))
            have HN1 := hid (fun m => end_any gc Ac n1 cc q r (w9.drewN m) (C9.row.drewN m))
            have HN2 := hid (fun m => refEnd_any w1.heap.size A n1 c q r (w9.drewN m) (X9.row.drewN m))
            have HP := hid (fun m => place_any gc Ac n1 cc q r (w9.drewN m) (C9.row.drewN m))
            have HC9 := hid C9
            have HX9 := hid X9
            have HB9 := hid b9
            clear C9 X9 b9 eA
            obtain ⟨E, hE⟩ : ∃ E, E = endOf n1 q r := ⟨_, rfl⟩
            rw [← hE] at HN1 HN2
            clear hE
            go_wp2_with fail
            go_quiet ((first | (go_at_call 23; exact quiet_left (HE.out _)) | (go_at_call 24; exact quiet_dr (HN1.out _)) | (go_at_call 25; exact quiet_dr (HN2.out _)) | (go_at_call 26; exact quiet_left (HP.out _))))
            go_wp2
            go_roundw
            case rel => exact ⟨j + 1, q, r, by go_num, by omega, hid (HC9.out.drewN _), hid (HX9.out.drewN _), hid (below_drewN HB9.out _)⟩
            case measure => simp [intOf]; omega
        · obtain ⟨S, q, r, hts⟩ : ∃ S q r, numStep l1 p e a1 a2 = (S, q, r) := ⟨_, _, _, rfl⟩
          have NS := cu_number (C.out.drewN 1) a1 a2
          rw [hts] at NS
          have HC := hid NS
          have BD := hid B.out.drew
          have HTS := hid hts
          clear NS hts
          go_wp2_with fail
          go_region_held3 (fun w' => w'.cell? ⟨aj.block, aj.off + 1, none⟩ = some (.int .i64 a1) ∧ w'.cell? ⟨aj.block, aj.off + 2, none⟩ = some (.int .i64 a2)) (first | exact (HAC.out _ B9.out).2 | exact (HAC.out _ B8.out).2 | exact (HAC.out _ BD.out).2 | go_keep) (first
            | (go_at_call 21; (refine HC.out.mono ?_); rintro er w8 ⟨rfl, C8, g8⟩; have X8 := (X.out.drewN 1).other g8 (by omega) (.inr (by omega)); have B8 := hid (BD.out.grown g8 BD.out.size (fun k hk => by injection hk with hk; omega)); have NS := rcu_number X8 a1 a2; rw [HTS.out] at NS; have HX := hid NS; have HC8 := hid C8; clear NS X8 g8 C8)
            | (go_at_call 22; (refine HX.out.mono ?_); rintro er w9 ⟨rfl, X9, g9⟩; have C9 := HC8.out.other g9 (by omega) (.inr (by omega)); have b9 := B8.out.grown g9 B8.out.size (fun k hk => by injection hk with hk; omega); have B9 := hid b9; clear g9)
            | fail)
          all_goals clear k0 k1 k2
          all_goals
            have hx2 := X9.row.c2
            have hx1 := X9.row.c1
            have HE := hid (fun m => err_any gc Ac n1 cc q r (w9.drewN m) (C9.row.drewN m))
            have HN1 := hid (fun m => end_any gc Ac n1 cc q r (w9.drewN m) (C9.row.drewN m))
            have HN2 := hid (fun m => refEnd_any w1.heap.size A n1 c q r (w9.drewN m) (X9.row.drewN m))
            have HP := hid (fun m => place_any gc Ac n1 cc q r (w9.drewN m) (C9.row.drewN m))
            have HC9 := hid C9
            have HX9 := hid X9
            have HB9 := hid b9
            clear C9 X9 b9 eA
            obtain ⟨E, hE⟩ : ∃ E, E = endOf n1 q r := ⟨_, rfl⟩
            rw [← hE] at HN1 HN2
            clear hE
            go_wp2_with fail
            go_quiet ((first | (go_at_call 23; exact quiet_left (HE.out _)) | (go_at_call 24; exact quiet_dr (HN1.out _)) | (go_at_call 25; exact quiet_dr (HN2.out _)) | (go_at_call 26; exact quiet_left (HP.out _))))
            go_wp2
            go_roundw
            case rel => exact ⟨j + 1, q, r, by go_num, by omega, hid (HC9.out.drewN _), hid (HX9.out.drewN _), hid (below_drewN HB9.out _)⟩
            case measure => simp [intOf]; omega
    · by_cases hjk : j < k
      · have hex : ¬ ((j : Int) < 60) := by omega
        have hjk' : (j : Int) < (k : Int) := by omega
        go_wp2_with fail
        refine (lives_any wr).mono ?_
        rintro er w11 ⟨rfl, b11⟩
        have b011 := B.out.trans (b11.mono B.out.size)
        go_wp2
        go_ret
        exact ⟨rfl, b011⟩
      · have hjk' : ¬ (j : Int) < (k : Int) := by omega
        go_wp2_with fail
        refine (lives_any wr).mono ?_
        rintro er w11 ⟨rfl, b11⟩
        have b011 := B.out.trans (b11.mono B.out.size)
        go_wp2
        go_ret
        exact ⟨rfl, b011⟩
end Go.Proofs.Ytchhbdhmmccbpaa.Sh
