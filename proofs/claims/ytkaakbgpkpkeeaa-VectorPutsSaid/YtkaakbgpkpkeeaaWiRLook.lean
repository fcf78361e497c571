/-
  The document's own look.
-/
import Derived.Test.YtkaakbgpkpkeeaaWiTxt
namespace Go.Proofs.Ytkaakbgpkpkeeaa.Sh
open Go Go.RowKit

theorem val_over {l : List UInt8} {k j : Nat} {z : UInt8} (hz : (digs l k)[j]? = some z) (hV : 36028797018963967 < val ((digs l k).take j)) : 9223372036854775808 ≤ val (digs l k) := by
  have h1 := val_take_succ hz
  have h2 := val_mono_take (digs l k) (j + 1)
  omega

set_option maxHeartbeats 4000000 in
theorem refLook_any (g : Nat) (A : Option Addr) (l : List UInt8) (n c p : Nat) (e : Int) (hn : l.length = n) (hc : n ≤ c) (hL : n ≤ 1099511627776) (hp : p ≤ n)
    (w : World) (h : CuRow 42 w g A n c p e) (hb : Byt w g A l) :
    Calls Try.prog 50 #[.pointer (some ⟨g, 0, none⟩)] w fun er w' => er = tup3 (look (l.drop p)) ∧ ∃ k, w' = w.drewN k := by
  have h0 := h.c0
  have h1 := h.c1
  obtain ⟨B, hB⟩ : ∃ B, B = (if c = p then A else A.map (·.add p)) := ⟨_, rfl⟩
  have hcut : Byt w g B (l.drop p) := by
    have := hb.cut (lo := p) (hi := n) (cap := c) hp (by omega) (by omega)
    rwa [List.take_of_length_le (by omega), ← hB] at this
  have eB := hB.symm
  obtain ⟨r, hr⟩ : ∃ r, r = l.drop p := ⟨_, rfl⟩
  have hrl : r.length = n - p := by rw [hr, List.length_drop, hn]
  rw [← hr] at hcut ⊢
  obtain ⟨m, hm⟩ : ∃ m, m = n - p := ⟨_, rfl⟩
  rw [← hm] at hrl
  have em := hm.symm
  have emi : (n : Int) - (p : Int) = (m : Int) := by omega
  have hpc : (p : Int) ≤ (n : Int) := by omega
  have hnc : (n : Int) ≤ (c : Int) := by omega
  have hm2 : m ≤ 1099511627776 := by omega
  clear h hb hB hr hm hn
  go_enter Try.func50, Try.ntmps50
  go_wp2_with fail
  go_quiet (fail)
  obtain ⟨w1, hw1⟩ : ∃ w1, w1 = w.drewN nq := ⟨_, rfl⟩
  have hb1 : Byt w1 g B r := by rw [hw1]; exact hcut.drewN nq
  have HW : Hid (∃ k, w1 = w.drewN k) := hid ⟨nq, hw1⟩
  rw [← hw1]
  clear hw1 hcut h0 h1
  by_cases hm0 : m = 0
  · subst hm0
    have HE := hid (look_nil hrl)
    clear hrl hb1
    go_wp2
    go_ret3
    exact ⟨by rw [HE.out]; rfl, HW.out⟩
  obtain ⟨ad, x, rfl, had, hx, hcell0⟩ := hb1.get (k := 0) (by omega)
  have hc00 : w1.cell? ad = some (.int .u8 (x.toNat : Int)) := by rw [← add_zero ad]; exact hcell0
  have hx8 := lt8 x
  obtain ⟨k, hk⟩ : ∃ k, x.toNat = k := ⟨_, rfl⟩
  rw [hk] at hcell0 hc00 hx8
  have HK := hid hk
  have HX := hid hx
  have HN := hid hrl
  by_cases hbig : 8 < k
  · have HE := hid (look_big hx (by omega))
    clear hk hx hrl hb1
    go_wp2
    go_ret3
    exact ⟨by rw [HE.out]; rfl, HW.out⟩
  by_cases hfew : m < k + 1
  · have HE := hid (look_few hx (by omega) (by omega))
    have e1 : (m : Int) < (k : Int) + 1 := by omega
    clear hk hx hrl hb1
    go_wp2
    go_ret3
    exact ⟨by rw [HE.out]; rfl, HW.out⟩
  have hLK := look_digs hx (by omega) (by omega)
  rw [hk] at hLK
  have hdl := digs_length (l := r) (k := k) (by omega)
  have HDL := hid hdl
  have hyz : 0 < k → ∃ y : UInt8, r[1]? = some y ∧ w1.cell? ⟨ad.block, ad.off + 1, none⟩ = some (.int .u8 (y.toNat : Int)) := by
    intro hk0
    obtain ⟨ad', y, had', _, hy, hcell1⟩ := hb1.get (k := 1) (by omega)
    injection had' with had'
    subst had'
    exact ⟨y, hy, by rw [← add_pos ad 1 (by omega)]; exact hcell1⟩
  have HB := hid hb1
  by_cases hbad : 0 < k ∧ r[1]? = some 0
  · obtain ⟨hkp, hr1⟩ := hbad
    obtain ⟨y, hy, hc10⟩ := hyz hkp
    obtain rfl : y = 0 := by rw [hy] at hr1; exact Option.some.inj hr1
    have HE : Hid (look r = (0, 0, 2)) := hid (by rw [hLK, if_pos (by rw [digs_head hkp, hy])])
    have hkp' : (0 : Int) < (k : Int) := by omega
    have hc11 : w1.cell? ⟨ad.block, ad.off + 1, none⟩ = some (.int .u8 0) := hc10
    clear hk hx hrl hb1 hLK hdl hyz hy hr1 hc10
    go_wp2
    go_ret3
    exact ⟨by rw [HE.out]; rfl, HW.out⟩
  have hhd : ¬ (digs r k).head? = some 0 := by
    intro e
    rcases Nat.eq_zero_or_pos k with rfl | hkp
    · have := List.eq_nil_of_length_eq_zero hdl
      rw [this] at e
      simp at e
    · rw [digs_head hkp] at e
      exact hbad ⟨hkp, e⟩
  rw [if_neg hhd] at hLK
  have HLK := hid hLK
  by_cases hk0 : k = 0
  · have HE : Hid (look r = (0, 1, 0)) := hid (by
      rw [hLK, hk0]
      have : digs r 0 = [] := List.eq_nil_of_length_eq_zero (by rw [← hk0]; rw [hdl])
      rw [this, val_nil, if_neg (by omega)])
    clear hk hx hrl hb1 hLK hdl hyz hbad hhd HLK HDL hfew hbig
    subst hk0
    go_wp2
    refine wp_loop_rounds 1 ?_
    rw [rounds_succ]
    go_wp2
    go_ret3
    exact ⟨by rw [HE.out]; rfl, HW.out⟩
  · have hkp' : (0 : Int) < (k : Int) := by omega
    obtain ⟨y, hy, hc10⟩ := hyz (by omega)
    have hy0 : ¬ y.toNat = 0 := fun e => hbad ⟨by omega, by rw [hy]; congr 1; exact UInt8.toNat_inj.1 e⟩
    clear hk hx hrl hb1 hLK hdl hyz hbad hhd hy
    go_wp2
    go_loopw [7, 8] (fun v i wr => ∃ j V : Nat, v = .int .i64 (V : Int) ∧ i = .int .i64 ((j : Int) + 1) ∧ j ≤ k ∧ V < 9223372036854775808 ∧ Hid (V = val ((digs r k).take j)) ∧ w1 = wr) (fun _ i _ => k + 1 - (intOf i).toNat)
    case atStart => exact ⟨0, 0, rfl, rfl, by omega, by omega, hid rfl, rfl⟩
    case round =>
      obtain ⟨j, V, rfl, rfl, hj, hVb, HV, rfl⟩ := hrel
      by_cases hlt : j < k
      · obtain ⟨ad', z, had', _, hz, hcz⟩ := HB.out.get (k := j + 1) (by rw [HN.out]; omega)
        injection had' with had'
        subst had'
        have hz8 := lt8 z
        have HZ : Hid ((digs r k)[j]? = some z) := hid (by rw [digs_get hlt]; exact hz)
        have hcz1 : w1.cell? ⟨ad.block, ad.off + (j + 1), none⟩ = some (.int .u8 (z.toNat : Int)) := by
          rw [add_pos _ _ (by omega)] at hcz
          exact hcz
        have HT := hid (val_take_succ HZ.out)
        have hj0 : (j : Int) + 1 ≤ (k : Int) := by omega
        have HS : Hid (256 * V + z.toNat = val ((digs r k).take (j + 1))) := hid (by rw [HT.out, HV.out])
        clear hz
        by_cases hov : 36028797018963967 < V
        · have HE : Hid (look r = (0, 0, 2)) := hid (by rw [HLK.out, if_pos (val_over HZ.out (by rw [← HV.out]; exact hov))])
          have hov' : (36028797018963967 : Int) < (V : Int) := by omega
          go_wp2
          go_ret3
          exact ⟨by rw [HE.out]; rfl, HW.out⟩
        · have hov' : ¬ (36028797018963967 : Int) < (V : Int) := by omega
          have hVz : 256 * (V : Int) + (z.toNat : Int) < 9223372036854775808 := by omega
          go_wp2
          go_roundw
          case rel => exact ⟨j + 1, 256 * V + z.toNat, by go_num, by go_num, by omega, by omega, HS, trivial⟩
          case measure => simp [intOf]; omega
      · have HVE : Hid (val (digs r k) = V) := hid (by rw [HV.out, List.take_of_length_le (by rw [HDL.out]; omega)])
        have HE : Hid (look r = (V, k + 1, 0)) := hid (by rw [HLK.out, HVE.out, if_neg (by omega)])
        have hlt' : ¬ (j : Int) + 1 ≤ (k : Int) := by omega
        go_wp2
        go_ret3
        exact ⟨by rw [HE.out]; simp [tup3], HW.out⟩
end Go.Proofs.Ytkaakbgpkpkeeaa.Sh
