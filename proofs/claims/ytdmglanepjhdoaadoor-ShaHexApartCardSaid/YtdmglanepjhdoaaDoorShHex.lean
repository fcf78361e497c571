/-
  Same, and Hex of both sides, by contract.
-/
import Derived.Test.YtdmglanepjhdoaaDoorShSmall
import Derived.Deep.RegionHeld3
namespace Go.Proofs.YtdmglanepjhdoaaDoor.Sh
open Go Go.RowKit

theorem info_u8 : (Tryd.prog.info? 5).map (fun i => (i.zero, i.size, i.bytes)) = some (some (.int .u8 0), 1, 1) := by kernel_rfl

theorem digits_at (n : Nat) (hn : n < 16) (w : World) :
    (Instr.index 9 (.string ⟨#[48, 49, 50, 51, 52, 53, 54, 55, 56, 57, 97, 98, 99, 100, 101, 102]⟩) (.int .u8 (n : Int))).run Tryd.prog w = .ok (.int .u8 ((hexDigit n).toNat : Int)) w := by
  have h : n = 0 ∨ n = 1 ∨ n = 2 ∨ n = 3 ∨ n = 4 ∨ n = 5 ∨ n = 6 ∨ n = 7 ∨ n = 8 ∨ n = 9 ∨ n = 10 ∨ n = 11 ∨ n = 12 ∨ n = 13 ∨ n = 14 ∨ n = 15 := by omega
  rcases h with rfl | rfl | rfl | rfl | rfl | rfl | rfl | rfl | rfl | rfl | rfl | rfl | rfl | rfl | rfl | rfl <;> (show _ = _; kernel_rfl)

theorem hexOf_snoc (l : List UInt8) (x : UInt8) : hexOf (l ++ [x]) = hexOf l ++ [hexDigit (x.toNat / 16), hexDigit (x.toNat % 16)] := by
  simp [hexOf]
theorem hexOf_length (l : List UInt8) : (hexOf l).length = 2 * l.length := by
  induction l with
  | nil => rfl
  | cons x r ih => simp only [hexOf, List.flatMap_cons, List.length_append, List.length_cons, List.length_nil] at ih ⊢; omega

set_option maxHeartbeats 1000000 in
theorem hex_any (A : Option Addr) (l : List UInt8) (c : Nat) (hm : l.length ≤ 1099511627776) (w : World) (h : Byt w w.heap.size A l) :
    Calls Tryd.prog 19 #[.slice A l.length c] w fun e w' => e = .returned (.string ⟨(hexOf l).toArray⟩) ∧ Below w.heap.size w w' := by
  obtain ⟨i0, hi0, hz0, hz1, hz2⟩ := info_parts info_u8
  go_enter Tryd.func19, Tryd.ntmps19
  go_wp2_with (at_make; refine wpList_make_own _ rfl _ _ 22 rfl w.heap.size 5 i0 (.int .u8 0) 1 Tryd.underlying22 hi0 hz0 hz1 .i64 .i64 _ (2 * l.length) rfl rfl (by omega) (by rw [hz2]; omega) (by unfold maxLen; omega) (Nat.le_refl _) ?_; intro w1 hown1 hg1)
  have hb1 : Below w.heap.size w w1 := (Below.refl _ _).grown hg1 (Nat.le_refl _) (by simp)
  clear hg1
  go_loopw [3, 12] (fun v i wr => ∃ k : Nat, k ≤ l.length ∧ i = .int .i64 k ∧ wr.ownsRow w.heap.size 5 1 v (2 * k) (bv (hexOf (l.take k))) ∧ Below w.heap.size w wr) (fun _ i _ => l.length - (intOf i).toNat)
  case atStart => exact ⟨0, Nat.zero_le _, rfl, hown1, hb1⟩
  case round =>
    obtain ⟨k, hk, rfl, hown, hb⟩ := hrel
    clear hown1 hb1
    by_cases hlt : k < l.length
    · obtain ⟨ad, x, rfl, had, hx, hcell⟩ := (h.below hb).get hlt
      have hx8 := lt8 x
      have HX := hid hx
      clear hx
      obtain ⟨p, hp⟩ : ∃ p, p = hexDigit (x.toNat / 16) := ⟨_, rfl⟩
      obtain ⟨q, hq⟩ : ∃ q, q = hexDigit (x.toNat % 16) := ⟨_, rfl⟩
      have d1 : ∀ w, (Instr.index 9 (.string ⟨#[48, 49, 50, 51, 52, 53, 54, 55, 56, 57, 97, 98, 99, 100, 101, 102]⟩) (.int .u8 ((x.toNat : Int) / 16))).run Tryd.prog w = .ok (.int .u8 (p.toNat : Int)) w := fun w => by
        rw [hp]; exact digits_at (x.toNat / 16) (by omega) w
      have d2 : ∀ w, (Instr.index 9 (.string ⟨#[48, 49, 50, 51, 52, 53, 54, 55, 56, 57, 97, 98, 99, 100, 101, 102]⟩) (.int .u8 ((x.toNat : Int) % 16))).run Tryd.prog w = .ok (.int .u8 (q.toNat : Int)) w := fun w => by
        rw [hq]; exact digits_at (x.toNat % 16) (by omega) w
      have d3 : bits .and .u8 (x.toNat : Int) 15 = (x.toNat : Int) % 16 := by
        have := u8_and_nat x.toNat 15 hx8 (by omega)
        rw [nat_mask4] at this
        exact this
      have HP := hid hp
      have HQ := hid hq
      clear hp hq
      go_wp2_with fail
      go_region_held3 (fun _ => True) (trivial)
        ((refine step_append_lies _ (by rfl) _ _ _ (by rfl) w.heap.size 5 i0 _ 1 1 Tryd.underlying22 hi0 hz0 hz1 hz2 rfl (by omega) u3 (2 * k) _ (by rfl) ((hown.alloc _).drew) ⟨wr.heap.size, 0, none⟩ 2 2 (bv [p, q]) (by rfl) (by rfl) (World.news_of_block (cs := #[.int .u8 p.toNat, .int .u8 q.toNat]) (t := 5) (fr := (0, 0)) (heap_alloc_new wr _)) (bv_one _) (by omega) (by unfold maxLen; omega) (by omega) (by have := hb.size; simp; omega) (wr.heap.size + 1) (by simp) ?_; intro gg cap w2 hown2 hgrow hat hlt2))
      all_goals
        have hb2 : Below w.heap.size w w2 := ((hb.alloc hb.size _).drew).grown hgrow (by have := hb.size; simp; omega) (fun g hg => (hown.lt g hg).1)
        have R : w2.ownsRow w.heap.size 5 1 (.slice (some ⟨gg, 0, none⟩) (2 * k + 2) cap) (2 * (k + 1)) (bv (hexOf (l.take (k + 1)))) := by
          rw [take_succ_of HX.out, hexOf_snoc, bv_append, ← HP.out, ← HQ.out]
          exact hown2
        clear hown2 hgrow hown hb d1 d2 d3 hat
        go_wp2
        go_roundw
        case rel => exact ⟨k + 1, by omega, by go_num, R, hb2⟩
        case measure => simp [intOf]; omega
    · obtain rfl : k = l.length := by omega
      obtain ⟨A3, c3, rfl, hc3⟩ := own_slice hown
      rw [List.take_length] at hown
      have hcv := conv_own (P := Tryd.prog) (dst := 9) Tryd.underlying22 Tryd.underlying5 Tryd.underlying9 hown
      clear hown
      go_wp2
      go_ret
      exact ⟨rfl, hb⟩
theorem digit_of (z : Int) (h0 : 0 ≤ z) (h1 : z < 16) (p : UInt8) (hp : p = hexDigit z.toNat) (w : World) :
    Calls Tryd.prog 34 #[.int .i64 z] w fun e w' => e = .returned (.int .u8 p.toNat) ∧ w = w' := by
  obtain ⟨n, rfl⟩ := Int.eq_ofNat_of_zero_le h0
  subst hp
  exact digit_any n (by omega) w

set_option maxHeartbeats 1000000 in
theorem refHex_any (A : Option Addr) (l : List UInt8) (c : Nat) (hm : l.length ≤ 1099511627776) (w : World) (h : Byt w w.heap.size A l) :
    Calls Tryd.prog 20 #[.slice A l.length c] w fun e w' => e = .returned (.string ⟨(hexOf l).toArray⟩) ∧ Below w.heap.size w w' := by
  obtain ⟨i0, hi0, hz0, hz1, hz2⟩ := info_parts info_u8
  go_enter Tryd.func20, Tryd.ntmps20
  go_wp2
  go_loopw [3, 4] (fun v i wr => ∃ k : Nat, k ≤ l.length ∧ i = .int .i64 k ∧ wr.ownsRow w.heap.size 5 1 v (2 * k) (bv (hexOf (l.take k))) ∧ Below w.heap.size w wr) (fun _ i _ => l.length - (intOf i).toNat)
  case atStart => exact ⟨0, Nat.zero_le _, rfl, World.ownsRow_nil _ _ _ _, Below.refl _ _⟩
  case round =>
    obtain ⟨k, hk, rfl, hown, hb⟩ := hrel
    by_cases hlt : k < l.length
    · obtain ⟨ad, x, rfl, had, hx, hcell⟩ := (h.below hb).get hlt
      have hx8 := lt8 x
      have HX := hid hx
      clear hx
      obtain ⟨p, hp⟩ : ∃ p, p = hexDigit (x.toNat / 16) := ⟨_, rfl⟩
      obtain ⟨q, hq⟩ : ∃ q, q = hexDigit (x.toNat % 16) := ⟨_, rfl⟩
      have D1 := hid (fun w => digit_of ((x.toNat : Int) / 16) (by omega) (by omega) p (hp.trans (congrArg hexDigit (by omega))) w)
      have D2 := hid (fun w => digit_of ((x.toNat : Int) % 16) (by omega) (by omega) q (hq.trans (congrArg hexDigit (by omega))) w)
      have e1 : IntKind.i64.wrap (x.toNat : Int) = (x.toNat : Int) := IntWalk.i64_in _ (by omega)
      have e2 : (x.toNat : Int).tdiv 16 = (x.toNat : Int) / 16 := Int.tdiv_eq_ediv_of_nonneg (by omega)
      have e3 : IntKind.i64.wrap ((x.toNat : Int) / 16) = (x.toNat : Int) / 16 := IntWalk.i64_in _ (by omega)
      have e4 : (x.toNat : Int).tmod 16 = (x.toNat : Int) % 16 := Int.tmod_eq_emod_of_nonneg (by omega)
      have HP := hid hp
      have HQ := hid hq
      clear hp hq
      have hk0 : (0 : Int) ≤ (k : Int) := Int.natCast_nonneg _
      have hk1 : (k : Int) < (l.length : Int) := by omega
      go_wp2_with fail
      go_region_held3 (fun w' => w'.cell? (ad.add k) = some (.int .u8 x.toNat)) (first | go_keep | (rw [hgrow.cell_far _ (by simp [block_add]; have := hb.size; omega) (fun e => by have := hown.lt _ e.symm; rw [block_add] at this; omega)]; assumption))
        (first
          | (go_at_call 34; (with_reducible refine (D1.out _).mono ?_); rintro e w' ⟨rfl, rfl⟩)
          | (go_at_call 34; (with_reducible refine (D2.out _).mono ?_); rintro e w' ⟨rfl, rfl⟩)
          | (refine step_append_lies _ (by rfl) (.tmp 11) (.tmp 26) 22 (by rfl) w.heap.size 5 i0 (.int .u8 0) 1 1 Tryd.underlying22 hi0 hz0 hz1 hz2 rfl (by omega) u3 (2 * k) (bv (hexOf (l.take k))) (by rfl) ((hown.alloc _).drew) ⟨wr.heap.size, 0, none⟩ 2 2 (bv [p, q]) (by rfl) (by rfl) (World.news_of_block (cs := #[.int .u8 p.toNat, .int .u8 q.toNat]) (t := 5) (fr := (0, 0)) (heap_alloc_new wr _)) (bv_one _) (by omega) (by unfold maxLen; omega) (by omega) (by have := hb.size; simp; omega) (wr.heap.size + 1) (by simp) ?_; intro gg cap w2 hown2 hgrow hat hlt2)
          | fail)
      all_goals
        have hb2 : Below w.heap.size w w2 := ((hb.alloc hb.size _).drew).grown hgrow (by have := hb.size; simp; omega) (fun g hg => (hown.lt g hg).1)
        have R : w2.ownsRow w.heap.size 5 1 (.slice (some ⟨gg, 0, none⟩) (2 * k + 2) cap) (2 * (k + 1)) (bv (hexOf (l.take (k + 1)))) := by
          rw [take_succ_of HX.out, hexOf_snoc, bv_append, ← HP.out, ← HQ.out]
          exact hown2
        clear hown2 hgrow hown hb hat e1 e2 e3 e4 D1 D2
        go_wp2
        go_roundw
        case rel => exact ⟨k + 1, by omega, by go_num, R, hb2⟩
        case measure => simp [intOf]; omega
    · obtain rfl : k = l.length := by omega
      obtain ⟨A3, c3, rfl, hc3⟩ := own_slice hown
      rw [List.take_length] at hown
      have hcv := conv_own (P := Tryd.prog) (dst := 9) Tryd.underlying22 Tryd.underlying5 Tryd.underlying9 hown
      clear hown
      go_wp2
      go_ret
      exact ⟨rfl, hb⟩

/-- Same: a loop that only reads. -/
theorem take_eq_succ {xs ys : List UInt8} {k : Nat} {x y : UInt8} (hx : xs[k]? = some x) (hy : ys[k]? = some y) (h : xs.take k = ys.take k) (e : x = y) : xs.take (k + 1) = ys.take (k + 1) := by
  rw [take_succ_of hx, take_succ_of hy, h, e]
theorem ne_of_get {xs ys : List UInt8} {k : Nat} {x y : UInt8} (hx : xs[k]? = some x) (hy : ys[k]? = some y) (e : x.toNat ≠ y.toNat) : decide (xs = ys) = false := by
  rw [decide_eq_false_iff_not]
  rintro rfl
  rw [hx] at hy
  injection hy with hy
  exact e (by rw [hy])

set_option maxHeartbeats 1000000 in
theorem same_any (A B : Option Addr) (xs ys : List UInt8) (c d : Nat) (hm : xs.length ≤ 1099511627776) (hm2 : ys.length ≤ 1099511627776) (w : World) (h : Byt w w.heap.size A xs) (h' : Byt w w.heap.size B ys) :
    Calls Tryd.prog 15 #[.slice A xs.length c, .slice B ys.length d] w fun e w' => e = .returned (.bool (decide (xs = ys))) ∧ ∃ k, w' = w.drewN k := by
  by_cases hlen : xs.length = ys.length
  · obtain ⟨n, hn⟩ : ∃ n, xs.length = n := ⟨_, rfl⟩
    have hn' : ys.length = n := by omega
    rw [hn, hn']
    have HN := hid hn
    have HN' := hid hn'
    have hmn : n ≤ 1099511627776 := by omega
    clear hlen hn hn' hm hm2
    go_enter Tryd.func15, Tryd.ntmps15
    go_wp2
    go_loopw [5] (fun i wr => ∃ k : Nat, k ≤ n ∧ i = .int .i64 k ∧ Hid (xs.take k = ys.take k) ∧ Hid (∃ q, wr = w.drewN q)) (fun i _ => n - (intOf i).toNat)
    case atStart => exact ⟨0, Nat.zero_le _, rfl, hid rfl, hid ⟨0, rfl⟩⟩
    case round =>
      obtain ⟨k, hk, rfl, hpre, hw⟩ := hrel
      have hwr : Below w.heap.size w wr := by obtain ⟨q, rfl⟩ := hw.out; exact below_drewN (Below.refl _ _) q
      by_cases hlt : k < n
      · obtain ⟨ad, x, rfl, had, hx, hcell⟩ := (h.below hwr).get (k := k) (by rw [HN.out]; exact hlt)
        obtain ⟨bd, y, rfl, hbd, hy, hcell'⟩ := (h'.below hwr).get (k := k) (by rw [HN'.out]; exact hlt)
        have hx8 := lt8 x
        have hy8 := lt8 y
        have HX := hid hx
        have HY := hid hy
        have hk0 : (0 : Int) ≤ (k : Int) := Int.natCast_nonneg _
        have hk1 : (k : Int) < (n : Int) := by omega
        clear hx hy h h' hwr
        go_wp2_with fail
        go_quiet (fail)
        go_wp2
        · have hne : ((x.toNat : Int) != (y.toNat : Int)) = true := by assumption
          have he : decide (xs = ys) = false := ne_of_get HX.out HY.out (by rw [bne_iff_ne] at hne; omega)
          have HE := hid he
          have HW : Hid (∃ q, wr.drewN nq = w.drewN q) := by
            obtain ⟨q, rfl⟩ := hw.out
            exact ⟨q + nq, World.drewN_drewN _ _ _⟩
          clear he hne
          go_ret
          exact ⟨by rw [HE.out]; rfl, HW.out⟩
        · have heq : ((x.toNat : Int) != (y.toNat : Int)) = false := by assumption
          have HT : Hid (xs.take (k + 1) = ys.take (k + 1)) := take_eq_succ HX.out HY.out hpre.out (UInt8.toNat_inj.1 (by simp at heq; omega))
          have HW : Hid (∃ q, wr.drewN nq = w.drewN q) := by
            obtain ⟨q, rfl⟩ := hw.out
            exact ⟨q + nq, World.drewN_drewN _ _ _⟩
          clear heq
          go_roundw
          case rel => exact ⟨k + 1, by omega, by go_num, HT, HW⟩
          case measure => simp [intOf]; omega
      · obtain rfl : k = n := by omega
        have he : decide (xs = ys) = true := by
          have := hpre.out
          rw [List.take_of_length_le (by rw [HN.out]; omega), List.take_of_length_le (by rw [HN'.out]; omega)] at this
          simpa using this
        have HE := hid he
        clear he
        go_wp2
        go_ret
        exact ⟨by rw [HE.out]; rfl, hw.out⟩
  · have he : decide (xs = ys) = false := by
      rw [decide_eq_false_iff_not]
      rintro rfl
      exact hlen rfl
    have HE := hid he
    clear he
    have hne : ((xs.length : Int) != (ys.length : Int)) = true := by rw [bne_iff_ne]; omega
    have hne2 : ((xs.length : Int) == (ys.length : Int)) = false := by rw [beq_eq_false_iff_ne]; omega
    go_enter Tryd.func15, Tryd.ntmps15
    go_wp2
    go_ret
    exact ⟨by rw [HE.out]; rfl, 0, rfl⟩
end Go.Proofs.YtdmglanepjhdoaaDoor.Sh
