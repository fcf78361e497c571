/-
  TimersInOrder. Written by mk_tmlaws_b.py.
-/
import Derived.Test.YtphajbdkaikmpaaJa14
set_option linter.unusedVariables false
set_option linter.unusedSimpArgs false
namespace Go.Proofs.Ytphajbdkaikmpaa.Sh
open Go Go.RowKit

set_option linter.unusedSimpArgs false
set_option linter.unusedVariables false
set_option maxRecDepth 100000
set_option maxHeartbeats 16000000 in
theorem timersInOrder_walk (now : Int) (DA : Option Addr) (xs : List D3) (dn dc : Nat) (hdn : xs.length = dn) (w : World) (hD : Els encD3 w w.heap.size DA xs) (h64 : ∀ x ∈ xs, In64 x.2.1) :
    Calls Try.prog 4 #[.slice DA dn dc, .int .i64 now] w fun e w' => e = .returned (.bool true) ∧ Below w.heap.size w w' := by
  have HLV := hid (fun W => lives14_any W)
  have HNEW := hid (fun W => newQ_any W)
  have HDN := hid hdn
  have H64 := hid h64
  have HDD := hid (fun W (hW : Below w.heap.size w W) => hD.below hW)
  clear hdn hD h64
  go_enter Try.func4, Try.ntmps4
  go_wp2_with fail
  refine (HNEW.out w).mono ?_
  rintro er w2 ⟨q, rfl, hbk, hb2⟩
  obtain ⟨w3, hw3⟩ : ∃ y, y = w2.alloc (.cells #[.slice none 0 0] 28) := ⟨_, rfl⟩
  have hbt := bthT_new hb2 hbk
  rw [← hw3] at hbt
  have HB3 : Hid (Below w.heap.size w w3) := hid (by rw [hw3]; exact hb2.alloc hb2.size _)
  have HBT := hid hbt
  have HW3 := hid hw3
  obtain ⟨r, hgr⟩ : ∃ x, x = w2.heap.size := ⟨_, rfl⟩
  rw [← hgr] at HBT
  clear hbt hw3 hbk hb2 HNEW
  go_upto_region 3 with fail
  rw [← HW3.out, ← hgr]
  clear hgr HW3
  go_wp2_with fail
  go_loopw [7] (fun i wr => ∃ k : Nat, k ≤ dn ∧ k ≤ 100 ∧ i = .int .i64 (k : Int) ∧ Hid (∃ (P R : Nat → Prop) (L : List Tm), Bth wr w.heap.size P R q r (500 * k) L) ∧ Hid (Below w.heap.size w wr)) (fun i _ => 100 - (intOf i).toNat)
  case atStart => exact ⟨0, Nat.zero_le _, Nat.zero_le _, rfl, hid ⟨_, _, _, HBT.out⟩, HB3⟩
  case round =>
    clear HBT HB3
    obtain ⟨wj, hwj⟩ : ∃ x, x = wr := ⟨_, rfl⟩
    subst hwj
    obtain ⟨k, hk, hkc, rfl, HEX, HB⟩ := hrel
    obtain ⟨P, R, L, hbt⟩ := HEX.out
    have HBT := hid hbt
    have hk0 : (0 : Int) ≤ (k : Int) := Int.natCast_nonneg _
    clear hbt HEX
    by_cases hlt : k < dn ∧ k < 100
    · obtain ⟨hl1, hl2⟩ := hlt
      obtain ⟨⟨op, kd, due⟩, hx⟩ : ∃ x, xs[k]? = some x := ⟨_, List.getElem?_eq_getElem (by rw [HDN.out]; exact hl1)⟩
      obtain ⟨ad, aj, hA, ea, e0, e1, e2⟩ := deed_at (HDD.out wj HB.out) hx
      subst hA
      have hi1 : (k : Int) < (dn : Int) := by omega
      have hi2 : (k : Int) < 100 := by omega
      have HDO := hid (doesT_any HBT.out HB.out.size op kd due (H64.out _ (List.mem_of_getElem? hx)) (by omega))
      simp only at e0 e1 e2
      clear hx
      go_wp2_with fail
      refine HDO.out.mono ?_
      rintro er w4 ⟨rfl, P2, R2, q1, q2⟩
      have HB4 := hid (HB.out.trans q2)
      have HBT4 := hid q1
      clear q1 q2 HDO e0 e1 e2

      go_wp2_with fail
      go_roundw
      case rel => exact ⟨k + 1, by omega, by omega, by go_num, hid ⟨_, _, _, by rw [show 500 * (k + 1) = 500 * k + 500 by omega]; exact HBT4.out⟩, HB4⟩
      case measure => simp [intOf]; omega
    · by_cases hl1 : k < dn
      · have hi1 : (k : Int) < (dn : Int) := by omega
        have hi2 : ¬ (k : Int) < 100 := by omega
        clear hlt
        have HLQ := hid (HBT.out.lq rfl HB.out)
        have HSORT := hid HBT.out.sorted
        have hn64 := HBT.out.len
        have HLN := HLQ.out.len
        obtain ⟨n, hn⟩ : ∃ n, L.length = n := ⟨_, rfl⟩
        rw [hn] at HLN hn64
        have HLN := hid HLN
        have HN := hid hn
        clear hn
        go_wp2_with fail
        refine HLN.out.mono ?_
        rintro er w4 ⟨rfl, hw⟩
        have hw4 : wj = w4 := hw
        subst hw4
        clear hw
        obtain ⟨w5, hw5⟩ : ∃ y, y = wj.alloc (.cells #[.int .i64 0, .int .i64 0] 37) := ⟨_, rfl⟩
        obtain ⟨qa, -⟩ := HLQ.out.alloc (.cells #[.int .i64 0, .int .i64 0] 37)
        rw [← hw5] at qa
        have r5 : w5.heap[wj.heap.size]? = some (.cells #[.int .i64 0, .int .i64 0] 37 (0, 0)) := by rw [hw5]; exact heap_alloc_new _ _
        have HQ5 := hid (qa.less (M := fun x => x = wj.heap.size) (fun x h => .inr h))
        have HR5 := hid r5
        have HB90 := hid HB.out.size
        have HW5 := hid hw5
        obtain ⟨b9, hb9⟩ : ∃ x, x = wj.heap.size := ⟨_, rfl⟩
        rw [← hb9] at HQ5 HR5 HB90
        clear qa r5 hw5
        go_upto_region 11 with fail
        rw [← HW5.out, ← hb9]
        clear hb9 HW5
        go_wp2_with fail
        go_loopw [10] (fun i wr => ∃ (j : Nat) (ld lu : Int), i = .int .i64 (j : Int) ∧ j ≤ n ∧ Hid (LQ w wr (fun x => x = b9) q (500 * k + 500 * j) (L.drop j)) ∧ Hid (wr.heap[b9]? = some (.cells #[.int .i64 ld, .int .i64 lu] 37 (0, 0))) ∧ Hid (0 < j → ofT L (j - 1) = (ld, lu))) (fun i _ => 65 - (intOf i).toNat)
        case atStart => exact ⟨0, 0, 0, rfl, Nat.zero_le _, HQ5, HR5, hid (fun h => absurd h (by omega))⟩
        case round =>
          clear HQ5 HR5
          obtain ⟨wi, hwi⟩ : ∃ x, x = wr := ⟨_, rfl⟩
          subst hwi
          obtain ⟨j, ld, lu, rfl, hj, HQJ, HR9, HOT⟩ := hrel
          have hj0 : (0 : Int) ≤ (j : Int) := Int.natCast_nonneg _
          have hj64 : (j : Int) ≤ 64 := by omega
          have hwr : IntKind.i64.wrap ((n : Int) - (j : Int)) = (n : Int) - (j : Int) := wrap_in _ (by omega)
          obtain ⟨m, hm⟩ : ∃ m, n - j = m := ⟨_, rfl⟩
          have hmn : ((m : Int) == (n : Int) - (j : Int)) = true := by simp; omega
          have hlenm : (L.drop j).length = m := by rw [List.length_drop, HN.out]; exact hm
          by_cases hjn : j < n
          · have hdr := drop_at14 (L := L) (j := j) (by rw [HN.out]; exact hjn)
            obtain ⟨⟨xd, xu⟩, hx⟩ : ∃ x, ofT L j = x := ⟨_, rfl⟩
            rw [hx] at hdr
            have HDR := hid hdr
            have HXX := hid hx
            rw [hdr] at HQJ hlenm
            clear hdr hx
            by_cases hd : now < xd
            · have HPO : Hid (Calls Try.prog 12 #[.pointer (some ⟨q, 0, none⟩), .int .i64 now] wi fun er w' => er = .returned (.tuple #[.agg #[.int .i64 0, .int .i64 0], .bool false]) ∧ LQ w w' (fun x => x = b9) q (500 * k + 500 * j + 500) ((xd, xu) :: L.drop (j + 1)) ∧ Std (fun x => x = b9) wi w') := hid (HQJ.out.popC now (by omega) (if_pos hd))
              go_wp2_with fail
              refine HPO.out.mono ?_
              rintro er v5 ⟨rfl, qv, sv⟩
              obtain ⟨w5, hw5⟩ : ∃ y, y = v5.alloc (.cells #[.int .i64 0, .int .i64 0] 37) := ⟨_, rfl⟩
              have bv : Below v5.heap.size v5 w5 := by rw [hw5]; exact (Below.refl _ _).alloc (Nat.le_refl _) _
              have r5 : w5.heap[v5.heap.size]? = some (.cells #[.int .i64 0, .int .i64 0] 37 (0, 0)) := by rw [hw5]; exact heap_alloc_new _ _
              obtain ⟨q5, s5⟩ := qv.below bv
              have hr9 := (s5 b9 rfl).trans ((sv b9 rfl).trans HR9.out)
              have b5 := q5.bel
              have HW5 := hid hw5
              clear qv sv bv hw5 HPO
              go_upto_region 15 with fail
              rw [← HW5.out]
              clear hr9 r5
              have HFI : Hid (Calls Try.prog 13 #[.pointer (some ⟨q, 0, none⟩)] w5 fun er w' => er = .returned (.tuple #[.agg #[.int .i64 xd, .int .i64 xu], .bool true]) ∧ LQ w w' (fun x => x = b9) q (500 * k + 500 * j + 500) ((xd, xu) :: L.drop (j + 1)) ∧ Std (fun x => x = b9) w5 w') := hid (q5.first)
              have HLEN := hid hlenm
              have HQ5 := hid q5
              have HB5 := hid b5
              clear q5 b5 s5 hlenm
              go_wp2_with fail
              refine HFI.out.mono ?_
              rintro er w6 ⟨rfl, q6, -⟩
              obtain ⟨w7, hw7⟩ : ∃ y, y = w6.alloc (.cells #[.int .i64 xd, .int .i64 xu] 37) := ⟨_, rfl⟩
              have r7 : w7.heap[w6.heap.size]? = some (.cells #[.int .i64 xd, .int .i64 xu] 37 (0, 0)) := by rw [hw7]; exact heap_alloc_new _ _
              have x7 : w7.cell? ⟨w6.heap.size, 0, none⟩ = some (.int .i64 xd) := by rw [cell_of_row _ _ 0 _ _ (0, 0) r7]; rfl
              have q7 := (q6.below (w' := w7) (by rw [hw7]; exact (Below.refl _ _).alloc (Nat.le_refl _) _)).1
              have HL7 : Hid (Calls Try.prog 11 #[.pointer (some ⟨q, 0, none⟩)] w7 fun er w' => er = .returned (.int .i64 (m : Int)) ∧ w7 = w') := hid (by have := q7.len; rw [HLEN.out] at this; exact this)
              have HB7 := hid q7.bel
              have HW7 := hid hw7
              clear q6 r7 q7 hw7
              go_upto_region 17 with fail
              rw [← HW7.out]
              go_wp2_with fail
              refine HL7.out.mono ?_
              rintro er w8 ⟨rfl, hw⟩
              have hw8 : w7 = w8 := hw
              subst hw8
              clear hw
              go_wp2_with fail
              refine (HLV.out w7).mono ?_
              rintro er w8 ⟨rfl, b8⟩
              go_wp2_with fail
              go_ret
              exact ⟨rfl, HB7.out.trans (b8.mono HB7.out.size)⟩
            · have HPO : Hid (Calls Try.prog 12 #[.pointer (some ⟨q, 0, none⟩), .int .i64 now] wi fun er w' => er = .returned (.tuple #[.agg #[.int .i64 xd, .int .i64 xu], .bool true]) ∧ LQ w w' (fun x => x = b9) q (500 * k + 500 * j + 500) (L.drop (j + 1)) ∧ Std (fun x => x = b9) wi w') := hid (HQJ.out.popC now (by omega) (if_neg hd))
              go_wp2_with fail
              refine HPO.out.mono ?_
              rintro er v5 ⟨rfl, qv, sv⟩
              obtain ⟨w5, hw5⟩ : ∃ y, y = v5.alloc (.cells #[.int .i64 xd, .int .i64 xu] 37) := ⟨_, rfl⟩
              have bv : Below v5.heap.size v5 w5 := by rw [hw5]; exact (Below.refl _ _).alloc (Nat.le_refl _) _
              have r5 : w5.heap[v5.heap.size]? = some (.cells #[.int .i64 xd, .int .i64 xu] 37 (0, 0)) := by rw [hw5]; exact heap_alloc_new _ _
              obtain ⟨q5, s5⟩ := qv.below bv
              have hr9 := (s5 b9 rfl).trans ((sv b9 rfl).trans HR9.out)
              have b5 := q5.bel
              have HW5 := hid hw5
              clear qv sv bv hw5 HPO
              go_upto_region 15 with fail
              rw [← HW5.out]
              clear b5 s5 hlenm
              have HQ5 := hid q5
              have x50 : w5.cell? ⟨v5.heap.size, 0, none⟩ = some (.int .i64 xd) := by rw [cell_of_row _ _ 0 _ _ (0, 0) r5]; rfl
              have x51 : w5.cell? ⟨v5.heap.size, 1, none⟩ = some (.int .i64 xu) := by rw [cell_of_row _ _ 1 _ _ (0, 0) r5]; rfl
              have y50 : w5.cell? ⟨b9, 0, none⟩ = some (.int .i64 ld) := by rw [cell_of_row _ _ 0 _ _ (0, 0) hr9]; rfl
              have y51 : w5.cell? ⟨b9, 1, none⟩ = some (.int .i64 lu) := by rw [cell_of_row _ _ 1 _ _ (0, 0) hr9]; rfl
              have f50 : w5.frozen? ⟨b9, 0, none⟩ = false := frozen_of_row w5 _ 0 _ _ hr9
              have f51 : w5.frozen? ⟨b9, 1, none⟩ = false := frozen_of_row w5 _ 1 _ _ hr9
              obtain ⟨w6, hw6⟩ : ∃ y, y = (w5.setCell ⟨b9, 0, none⟩ (.int .i64 xd)).setCell ⟨b9, 1, none⟩ (.int .i64 xu) := ⟨_, rfl⟩
              have HQ6 : Hid (LQ w w6 (fun x => x = b9) q (500 * k + 500 * (j + 1)) (L.drop (j + 1))) := hid (by rw [hw6, show 500 * k + 500 * (j + 1) = 500 * k + 500 * j + 500 by omega]; exact HQ5.out.poke rfl HB90.out _ _)
              have HR6 : Hid (w6.heap[b9]? = some (.cells #[.int .i64 xd, .int .i64 xu] 37 (0, 0))) := hid (by rw [hw6]; exact pairS hr9)
              have HOT6 : Hid (0 < j + 1 → ofT L (j + 1 - 1) = (xd, xu)) := hid (fun _ => HXX.out)
              have HW6 := hid hw6
              have hlt0 : 0 < j → ltT (ld, lu) (xd, xu) := fun h => by
                have := sorted_at HSORT.out (j := j) (by rw [HN.out]; exact hjn) h
                rw [HOT.out h, HXX.out] at this
                exact this
              clear q5 r5 hr9 hw6
              by_cases hjz : j = 0
              · have hjp : ¬ (0 : Int) < (j : Int) := by omega
                clear hlt0
                go_wp2_with fail
                rw [← HW6.out]
                go_roundw
                case rel => exact ⟨j + 1, xd, xu, by go_num, by omega, HQ6, HR6, HOT6⟩
                case measure => simp [intOf]; omega
              · have hjp : (0 : Int) < (j : Int) := by omega
                have hl := hlt0 (by omega)
                clear hlt0
                unfold ltT at hl
                simp only at hl
                have hl1 : ¬ xd < ld := by omega
                by_cases heq : xd = ld
                · subst heq
                  have heb : (xd == xd) = true := by simp
                  have hl2 : ¬ xu ≤ lu := by omega
                  clear hl
                  go_wp2_with fail
                  rw [← HW6.out]
                  go_roundw
                  case rel => exact ⟨j + 1, xd, xu, by go_num, by omega, HQ6, HR6, HOT6⟩
                  case measure => simp [intOf]; omega
                · have heb : (xd == ld) = false := beq_eq_false_iff_ne.2 heq
                  clear hl
                  go_wp2_with fail
                  rw [← HW6.out]
                  go_roundw
                  case rel => exact ⟨j + 1, xd, xu, by go_num, by omega, HQ6, HR6, HOT6⟩
                  case measure => simp [intOf]; omega
          · have hdr : L.drop j = [] := List.drop_of_length_le (by rw [HN.out]; omega)
            rw [hdr] at HQJ hlenm
            clear hdr
            have HPO : Hid (Calls Try.prog 12 #[.pointer (some ⟨q, 0, none⟩), .int .i64 now] wi fun er w' => er = .returned (.tuple #[.agg #[.int .i64 0, .int .i64 0], .bool false]) ∧ LQ w w' (fun x => x = b9) q (500 * k + 500 * j + 500) [] ∧ Std (fun x => x = b9) wi w') := hid (HQJ.out.popC now (by omega) (rfl))
            go_wp2_with fail
            refine HPO.out.mono ?_
            rintro er v5 ⟨rfl, qv, sv⟩
            obtain ⟨w5, hw5⟩ : ∃ y, y = v5.alloc (.cells #[.int .i64 0, .int .i64 0] 37) := ⟨_, rfl⟩
            have bv : Below v5.heap.size v5 w5 := by rw [hw5]; exact (Below.refl _ _).alloc (Nat.le_refl _) _
            have r5 : w5.heap[v5.heap.size]? = some (.cells #[.int .i64 0, .int .i64 0] 37 (0, 0)) := by rw [hw5]; exact heap_alloc_new _ _
            obtain ⟨q5, s5⟩ := qv.below bv
            have hr9 := (s5 b9 rfl).trans ((sv b9 rfl).trans HR9.out)
            have b5 := q5.bel
            have HW5 := hid hw5
            clear qv sv bv hw5 HPO
            go_upto_region 15 with fail
            rw [← HW5.out]
            clear hr9 r5
            have HFI : Hid (Calls Try.prog 13 #[.pointer (some ⟨q, 0, none⟩)] w5 fun er w' => er = .returned (.tuple #[.agg #[.int .i64 0, .int .i64 0], .bool false]) ∧ LQ w w' (fun x => x = b9) q (500 * k + 500 * j + 500) [] ∧ Std (fun x => x = b9) w5 w') := hid (q5.first)
            have HLEN := hid hlenm
            have HQ5 := hid q5
            have HB5 := hid b5
            clear q5 b5 s5 hlenm
            go_wp2_with fail
            refine HFI.out.mono ?_
            rintro er w6 ⟨rfl, q6, -⟩
            obtain ⟨w7, hw7⟩ : ∃ y, y = w6.alloc (.cells #[.int .i64 0, .int .i64 0] 37) := ⟨_, rfl⟩
            have r7 : w7.heap[w6.heap.size]? = some (.cells #[.int .i64 0, .int .i64 0] 37 (0, 0)) := by rw [hw7]; exact heap_alloc_new _ _
            have x7 : w7.cell? ⟨w6.heap.size, 0, none⟩ = some (.int .i64 0) := by rw [cell_of_row _ _ 0 _ _ (0, 0) r7]; rfl
            have q7 := (q6.below (w' := w7) (by rw [hw7]; exact (Below.refl _ _).alloc (Nat.le_refl _) _)).1
            have HL7 : Hid (Calls Try.prog 11 #[.pointer (some ⟨q, 0, none⟩)] w7 fun er w' => er = .returned (.int .i64 (m : Int)) ∧ w7 = w') := hid (by have := q7.len; rw [HLEN.out] at this; exact this)
            have HB7 := hid q7.bel
            have HW7 := hid hw7
            clear q6 r7 q7 hw7
            go_upto_region 17 with fail
            rw [← HW7.out]
            go_wp2_with fail
            refine HL7.out.mono ?_
            rintro er w8 ⟨rfl, hw⟩
            have hw8 : w7 = w8 := hw
            subst hw8
            clear hw
            go_wp2_with fail
            refine (HLV.out w7).mono ?_
            rintro er w8 ⟨rfl, b8⟩
            go_wp2_with fail
            go_ret
            exact ⟨rfl, HB7.out.trans (b8.mono HB7.out.size)⟩
      · have hi1 : ¬ (k : Int) < (dn : Int) := by omega
        clear hlt
        have HLQ := hid (HBT.out.lq rfl HB.out)
        have HSORT := hid HBT.out.sorted
        have hn64 := HBT.out.len
        have HLN := HLQ.out.len
        obtain ⟨n, hn⟩ : ∃ n, L.length = n := ⟨_, rfl⟩
        rw [hn] at HLN hn64
        have HLN := hid HLN
        have HN := hid hn
        clear hn
        go_wp2_with fail
        refine HLN.out.mono ?_
        rintro er w4 ⟨rfl, hw⟩
        have hw4 : wj = w4 := hw
        subst hw4
        clear hw
        obtain ⟨w5, hw5⟩ : ∃ y, y = wj.alloc (.cells #[.int .i64 0, .int .i64 0] 37) := ⟨_, rfl⟩
        obtain ⟨qa, -⟩ := HLQ.out.alloc (.cells #[.int .i64 0, .int .i64 0] 37)
        rw [← hw5] at qa
        have r5 : w5.heap[wj.heap.size]? = some (.cells #[.int .i64 0, .int .i64 0] 37 (0, 0)) := by rw [hw5]; exact heap_alloc_new _ _
        have HQ5 := hid (qa.less (M := fun x => x = wj.heap.size) (fun x h => .inr h))
        have HR5 := hid r5
        have HB90 := hid HB.out.size
        have HW5 := hid hw5
        obtain ⟨b9, hb9⟩ : ∃ x, x = wj.heap.size := ⟨_, rfl⟩
        rw [← hb9] at HQ5 HR5 HB90
        clear qa r5 hw5
        go_upto_region 11 with fail
        rw [← HW5.out, ← hb9]
        clear hb9 HW5
        go_wp2_with fail
        go_loopw [10] (fun i wr => ∃ (j : Nat) (ld lu : Int), i = .int .i64 (j : Int) ∧ j ≤ n ∧ Hid (LQ w wr (fun x => x = b9) q (500 * k + 500 * j) (L.drop j)) ∧ Hid (wr.heap[b9]? = some (.cells #[.int .i64 ld, .int .i64 lu] 37 (0, 0))) ∧ Hid (0 < j → ofT L (j - 1) = (ld, lu))) (fun i _ => 65 - (intOf i).toNat)
        case atStart => exact ⟨0, 0, 0, rfl, Nat.zero_le _, HQ5, HR5, hid (fun h => absurd h (by omega))⟩
        case round =>
          clear HQ5 HR5
          obtain ⟨wi, hwi⟩ : ∃ x, x = wr := ⟨_, rfl⟩
          subst hwi
          obtain ⟨j, ld, lu, rfl, hj, HQJ, HR9, HOT⟩ := hrel
          have hj0 : (0 : Int) ≤ (j : Int) := Int.natCast_nonneg _
          have hj64 : (j : Int) ≤ 64 := by omega
          have hwr : IntKind.i64.wrap ((n : Int) - (j : Int)) = (n : Int) - (j : Int) := wrap_in _ (by omega)
          obtain ⟨m, hm⟩ : ∃ m, n - j = m := ⟨_, rfl⟩
          have hmn : ((m : Int) == (n : Int) - (j : Int)) = true := by simp; omega
          have hlenm : (L.drop j).length = m := by rw [List.length_drop, HN.out]; exact hm
          by_cases hjn : j < n
          · have hdr := drop_at14 (L := L) (j := j) (by rw [HN.out]; exact hjn)
            obtain ⟨⟨xd, xu⟩, hx⟩ : ∃ x, ofT L j = x := ⟨_, rfl⟩
            rw [hx] at hdr
            have HDR := hid hdr
            have HXX := hid hx
            rw [hdr] at HQJ hlenm
            clear hdr hx
            by_cases hd : now < xd
            · have HPO : Hid (Calls Try.prog 12 #[.pointer (some ⟨q, 0, none⟩), .int .i64 now] wi fun er w' => er = .returned (.tuple #[.agg #[.int .i64 0, .int .i64 0], .bool false]) ∧ LQ w w' (fun x => x = b9) q (500 * k + 500 * j + 500) ((xd, xu) :: L.drop (j + 1)) ∧ Std (fun x => x = b9) wi w') := hid (HQJ.out.popC now (by omega) (if_pos hd))
              go_wp2_with fail
              refine HPO.out.mono ?_
              rintro er v5 ⟨rfl, qv, sv⟩
              obtain ⟨w5, hw5⟩ : ∃ y, y = v5.alloc (.cells #[.int .i64 0, .int .i64 0] 37) := ⟨_, rfl⟩
              have bv : Below v5.heap.size v5 w5 := by rw [hw5]; exact (Below.refl _ _).alloc (Nat.le_refl _) _
              have r5 : w5.heap[v5.heap.size]? = some (.cells #[.int .i64 0, .int .i64 0] 37 (0, 0)) := by rw [hw5]; exact heap_alloc_new _ _
              obtain ⟨q5, s5⟩ := qv.below bv
              have hr9 := (s5 b9 rfl).trans ((sv b9 rfl).trans HR9.out)
              have b5 := q5.bel
              have HW5 := hid hw5
              clear qv sv bv hw5 HPO
              go_upto_region 15 with fail
              rw [← HW5.out]
              clear hr9 r5
              have HFI : Hid (Calls Try.prog 13 #[.pointer (some ⟨q, 0, none⟩)] w5 fun er w' => er = .returned (.tuple #[.agg #[.int .i64 xd, .int .i64 xu], .bool true]) ∧ LQ w w' (fun x => x = b9) q (500 * k + 500 * j + 500) ((xd, xu) :: L.drop (j + 1)) ∧ Std (fun x => x = b9) w5 w') := hid (q5.first)
              have HLEN := hid hlenm
              have HQ5 := hid q5
              have HB5 := hid b5
              clear q5 b5 s5 hlenm
              go_wp2_with fail
              refine HFI.out.mono ?_
              rintro er w6 ⟨rfl, q6, -⟩
              obtain ⟨w7, hw7⟩ : ∃ y, y = w6.alloc (.cells #[.int .i64 xd, .int .i64 xu] 37) := ⟨_, rfl⟩
              have r7 : w7.heap[w6.heap.size]? = some (.cells #[.int .i64 xd, .int .i64 xu] 37 (0, 0)) := by rw [hw7]; exact heap_alloc_new _ _
              have x7 : w7.cell? ⟨w6.heap.size, 0, none⟩ = some (.int .i64 xd) := by rw [cell_of_row _ _ 0 _ _ (0, 0) r7]; rfl
              have q7 := (q6.below (w' := w7) (by rw [hw7]; exact (Below.refl _ _).alloc (Nat.le_refl _) _)).1
              have HL7 : Hid (Calls Try.prog 11 #[.pointer (some ⟨q, 0, none⟩)] w7 fun er w' => er = .returned (.int .i64 (m : Int)) ∧ w7 = w') := hid (by have := q7.len; rw [HLEN.out] at this; exact this)
              have HB7 := hid q7.bel
              have HW7 := hid hw7
              clear q6 r7 q7 hw7
              go_upto_region 17 with fail
              rw [← HW7.out]
              go_wp2_with fail
              refine HL7.out.mono ?_
              rintro er w8 ⟨rfl, hw⟩
              have hw8 : w7 = w8 := hw
              subst hw8
              clear hw
              go_wp2_with fail
              refine (HLV.out w7).mono ?_
              rintro er w8 ⟨rfl, b8⟩
              go_wp2_with fail
              go_ret
              exact ⟨rfl, HB7.out.trans (b8.mono HB7.out.size)⟩
            · have HPO : Hid (Calls Try.prog 12 #[.pointer (some ⟨q, 0, none⟩), .int .i64 now] wi fun er w' => er = .returned (.tuple #[.agg #[.int .i64 xd, .int .i64 xu], .bool true]) ∧ LQ w w' (fun x => x = b9) q (500 * k + 500 * j + 500) (L.drop (j + 1)) ∧ Std (fun x => x = b9) wi w') := hid (HQJ.out.popC now (by omega) (if_neg hd))
              go_wp2_with fail
              refine HPO.out.mono ?_
              rintro er v5 ⟨rfl, qv, sv⟩
              obtain ⟨w5, hw5⟩ : ∃ y, y = v5.alloc (.cells #[.int .i64 xd, .int .i64 xu] 37) := ⟨_, rfl⟩
              have bv : Below v5.heap.size v5 w5 := by rw [hw5]; exact (Below.refl _ _).alloc (Nat.le_refl _) _
              have r5 : w5.heap[v5.heap.size]? = some (.cells #[.int .i64 xd, .int .i64 xu] 37 (0, 0)) := by rw [hw5]; exact heap_alloc_new _ _
              obtain ⟨q5, s5⟩ := qv.below bv
              have hr9 := (s5 b9 rfl).trans ((sv b9 rfl).trans HR9.out)
              have b5 := q5.bel
              have HW5 := hid hw5
              clear qv sv bv hw5 HPO
              go_upto_region 15 with fail
              rw [← HW5.out]
              clear b5 s5 hlenm
              have HQ5 := hid q5
              have x50 : w5.cell? ⟨v5.heap.size, 0, none⟩ = some (.int .i64 xd) := by rw [cell_of_row _ _ 0 _ _ (0, 0) r5]; rfl
              have x51 : w5.cell? ⟨v5.heap.size, 1, none⟩ = some (.int .i64 xu) := by rw [cell_of_row _ _ 1 _ _ (0, 0) r5]; rfl
              have y50 : w5.cell? ⟨b9, 0, none⟩ = some (.int .i64 ld) := by rw [cell_of_row _ _ 0 _ _ (0, 0) hr9]; rfl
              have y51 : w5.cell? ⟨b9, 1, none⟩ = some (.int .i64 lu) := by rw [cell_of_row _ _ 1 _ _ (0, 0) hr9]; rfl
              have f50 : w5.frozen? ⟨b9, 0, none⟩ = false := frozen_of_row w5 _ 0 _ _ hr9
              have f51 : w5.frozen? ⟨b9, 1, none⟩ = false := frozen_of_row w5 _ 1 _ _ hr9
              obtain ⟨w6, hw6⟩ : ∃ y, y = (w5.setCell ⟨b9, 0, none⟩ (.int .i64 xd)).setCell ⟨b9, 1, none⟩ (.int .i64 xu) := ⟨_, rfl⟩
              have HQ6 : Hid (LQ w w6 (fun x => x = b9) q (500 * k + 500 * (j + 1)) (L.drop (j + 1))) := hid (by rw [hw6, show 500 * k + 500 * (j + 1) = 500 * k + 500 * j + 500 by omega]; exact HQ5.out.poke rfl HB90.out _ _)
              have HR6 : Hid (w6.heap[b9]? = some (.cells #[.int .i64 xd, .int .i64 xu] 37 (0, 0))) := hid (by rw [hw6]; exact pairS hr9)
              have HOT6 : Hid (0 < j + 1 → ofT L (j + 1 - 1) = (xd, xu)) := hid (fun _ => HXX.out)
              have HW6 := hid hw6
              have hlt0 : 0 < j → ltT (ld, lu) (xd, xu) := fun h => by
                have := sorted_at HSORT.out (j := j) (by rw [HN.out]; exact hjn) h
                rw [HOT.out h, HXX.out] at this
                exact this
              clear q5 r5 hr9 hw6
              by_cases hjz : j = 0
              · have hjp : ¬ (0 : Int) < (j : Int) := by omega
                clear hlt0
                go_wp2_with fail
                rw [← HW6.out]
                go_roundw
                case rel => exact ⟨j + 1, xd, xu, by go_num, by omega, HQ6, HR6, HOT6⟩
                case measure => simp [intOf]; omega
              · have hjp : (0 : Int) < (j : Int) := by omega
                have hl := hlt0 (by omega)
                clear hlt0
                unfold ltT at hl
                simp only at hl
                have hl1 : ¬ xd < ld := by omega
                by_cases heq : xd = ld
                · subst heq
                  have heb : (xd == xd) = true := by simp
                  have hl2 : ¬ xu ≤ lu := by omega
                  clear hl
                  go_wp2_with fail
                  rw [← HW6.out]
                  go_roundw
                  case rel => exact ⟨j + 1, xd, xu, by go_num, by omega, HQ6, HR6, HOT6⟩
                  case measure => simp [intOf]; omega
                · have heb : (xd == ld) = false := beq_eq_false_iff_ne.2 heq
                  clear hl
                  go_wp2_with fail
                  rw [← HW6.out]
                  go_roundw
                  case rel => exact ⟨j + 1, xd, xu, by go_num, by omega, HQ6, HR6, HOT6⟩
                  case measure => simp [intOf]; omega
          · have hdr : L.drop j = [] := List.drop_of_length_le (by rw [HN.out]; omega)
            rw [hdr] at HQJ hlenm
            clear hdr
            have HPO : Hid (Calls Try.prog 12 #[.pointer (some ⟨q, 0, none⟩), .int .i64 now] wi fun er w' => er = .returned (.tuple #[.agg #[.int .i64 0, .int .i64 0], .bool false]) ∧ LQ w w' (fun x => x = b9) q (500 * k + 500 * j + 500) [] ∧ Std (fun x => x = b9) wi w') := hid (HQJ.out.popC now (by omega) (rfl))
            go_wp2_with fail
            refine HPO.out.mono ?_
            rintro er v5 ⟨rfl, qv, sv⟩
            obtain ⟨w5, hw5⟩ : ∃ y, y = v5.alloc (.cells #[.int .i64 0, .int .i64 0] 37) := ⟨_, rfl⟩
            have bv : Below v5.heap.size v5 w5 := by rw [hw5]; exact (Below.refl _ _).alloc (Nat.le_refl _) _
            have r5 : w5.heap[v5.heap.size]? = some (.cells #[.int .i64 0, .int .i64 0] 37 (0, 0)) := by rw [hw5]; exact heap_alloc_new _ _
            obtain ⟨q5, s5⟩ := qv.below bv
            have hr9 := (s5 b9 rfl).trans ((sv b9 rfl).trans HR9.out)
            have b5 := q5.bel
            have HW5 := hid hw5
            clear qv sv bv hw5 HPO
            go_upto_region 15 with fail
            rw [← HW5.out]
            clear hr9 r5
            have HFI : Hid (Calls Try.prog 13 #[.pointer (some ⟨q, 0, none⟩)] w5 fun er w' => er = .returned (.tuple #[.agg #[.int .i64 0, .int .i64 0], .bool false]) ∧ LQ w w' (fun x => x = b9) q (500 * k + 500 * j + 500) [] ∧ Std (fun x => x = b9) w5 w') := hid (q5.first)
            have HLEN := hid hlenm
            have HQ5 := hid q5
            have HB5 := hid b5
            clear q5 b5 s5 hlenm
            go_wp2_with fail
            refine HFI.out.mono ?_
            rintro er w6 ⟨rfl, q6, -⟩
            obtain ⟨w7, hw7⟩ : ∃ y, y = w6.alloc (.cells #[.int .i64 0, .int .i64 0] 37) := ⟨_, rfl⟩
            have r7 : w7.heap[w6.heap.size]? = some (.cells #[.int .i64 0, .int .i64 0] 37 (0, 0)) := by rw [hw7]; exact heap_alloc_new _ _
            have x7 : w7.cell? ⟨w6.heap.size, 0, none⟩ = some (.int .i64 0) := by rw [cell_of_row _ _ 0 _ _ (0, 0) r7]; rfl
            have q7 := (q6.below (w' := w7) (by rw [hw7]; exact (Below.refl _ _).alloc (Nat.le_refl _) _)).1
            have HL7 : Hid (Calls Try.prog 11 #[.pointer (some ⟨q, 0, none⟩)] w7 fun er w' => er = .returned (.int .i64 (m : Int)) ∧ w7 = w') := hid (by have := q7.len; rw [HLEN.out] at this; exact this)
            have HB7 := hid q7.bel
            have HW7 := hid hw7
            clear q6 r7 q7 hw7
            go_upto_region 17 with fail
            rw [← HW7.out]
            go_wp2_with fail
            refine HL7.out.mono ?_
            rintro er w8 ⟨rfl, hw⟩
            have hw8 : w7 = w8 := hw
            subst hw8
            clear hw
            go_wp2_with fail
            refine (HLV.out w7).mono ?_
            rintro er w8 ⟨rfl, b8⟩
            go_wp2_with fail
            go_ret
            exact ⟨rfl, HB7.out.trans (b8.mono HB7.out.size)⟩
end Go.Proofs.Ytphajbdkaikmpaa.Sh
