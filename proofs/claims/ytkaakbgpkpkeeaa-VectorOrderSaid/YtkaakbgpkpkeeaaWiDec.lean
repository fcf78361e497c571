/-
  decoded: the number that bytes begin with.
-/
import Derived.Test.YtkaakbgpkpkeeaaWiCur
namespace Go.Proofs.Ytkaakbgpkpkeeaa.Sh
open Go Go.RowKit

theorem i64_or_nat (a b : Nat) (ha : a < 9223372036854775808) (hb : b < 9223372036854775808) : bits .or .i64 (a : Int) (b : Int) = ((a ||| b : Nat) : Int) := by
  have ho : ∀ a : Nat, a < 9223372036854775808 → (BitVec.ofInt 64 (a : Int)).toNat = a := fun a ha => by
    rw [BitVec.ofInt_natCast, BitVec.toNat_ofNat]; exact Nat.mod_eq_of_lt (by omega)
  show IntKind.i64.wrap ((BitVec.ofInt 64 (a : Int) ||| BitVec.ofInt 64 (b : Int)).toNat : Int) = _
  rw [BitVec.toNat_or, ho a ha, ho b hb, IntKind.wrap_i64]
  have : a ||| b < 2 ^ 63 := Nat.or_lt_two_pow (by omega) (by omega)
  omega
theorem or_digit (v d : Nat) (hd : d < 256) (h : 256 * v + d < 9223372036854775808) : bits .or .i64 ((256 * v : Nat) : Int) (d : Int) = ((256 * v + d : Nat) : Int) := by
  rw [i64_or_nat _ _ (by omega) (by omega), nat_join 8 (256 * v) d (by omega) (by omega)]

theorem look_nil {l : List UInt8} (h : l.length = 0) : look l = (0, 0, 3) := by
  rw [List.eq_nil_of_length_eq_zero h]; rfl
theorem look_cons {l : List UInt8} {x : UInt8} (h : l[0]? = some x) : ∃ t, l = x :: t ∧ t.length + 1 = l.length := by
  cases l with
  | nil => simp at h
  | cons y t => simp at h; subst h; exact ⟨t, rfl, by simp⟩
theorem look_big {l : List UInt8} {x : UInt8} (h : l[0]? = some x) (hx : 8 < x.toNat) : look l = (0, 0, 2) := by
  obtain ⟨t, rfl, _⟩ := look_cons h
  simp only [look]; rw [if_pos hx]
theorem look_few {l : List UInt8} {x : UInt8} (h : l[0]? = some x) (hx : x.toNat ≤ 8) (hl : l.length < x.toNat + 1) : look l = (0, 0, 3) := by
  obtain ⟨t, rfl, h2⟩ := look_cons h
  simp only [look]; rw [if_neg (by omega), if_pos (by omega)]
/-- The digits that a first byte of k names. -/
def digs (l : List UInt8) (k : Nat) : List UInt8 := (l.take (1 + k)).drop 1
theorem digs_get {l : List UInt8} {k j : Nat} (h : j < k) : (digs l k)[j]? = l[j + 1]? := by
  unfold digs
  rw [List.getElem?_drop, List.getElem?_take, if_pos (by omega), Nat.add_comm]
theorem digs_length {l : List UInt8} {k : Nat} (h : k + 1 ≤ l.length) : (digs l k).length = k := by
  unfold digs; rw [List.length_drop, List.length_take]; omega
theorem look_digs {l : List UInt8} {x : UInt8} (h : l[0]? = some x) (hx : x.toNat ≤ 8) (hl : x.toNat + 1 ≤ l.length) :
    look l = if (digs l x.toNat).head? = some 0 then (0, 0, 2) else if 9223372036854775808 ≤ val (digs l x.toNat) then (0, 0, 2) else (val (digs l x.toNat), x.toNat + 1, 0) := by
  obtain ⟨t, rfl, h2⟩ := look_cons h
  have : digs (x :: t) x.toNat = t.take x.toNat := by unfold digs; rw [Nat.add_comm, List.take_succ_cons]; rfl
  simp only [look, this]
  rw [if_neg (by omega), if_neg (by omega)]
theorem digs_head {l : List UInt8} {k : Nat} (hk : 0 < k) : (digs l k).head? = l[1]? := by
  rw [List.head?_eq_getElem?, digs_get hk]
theorem digs_fits {l : List UInt8} {k : Nat} {y : UInt8} (hk : k ≤ 8) (hl : k + 1 ≤ l.length) (h : 0 < k → l[1]? = some y) (h8 : ¬ (k = 8 ∧ 127 < y.toNat)) : val (digs l k) < 9223372036854775808 := by
  have hL := digs_length hl
  by_cases h7 : k ≤ 7
  · exact val_seven (by omega)
  · have hk8 : k = 8 := by omega
    subst hk8
    have hh := digs_head (l := l) (k := 8) (by omega)
    rw [h (by omega)] at hh
    cases hd : digs l 8 with
    | nil => rw [hd] at hL; simp at hL
    | cons z r =>
      rw [hd] at hh hL
      simp at hh hL
      subst hh
      exact (val_eight hL).2 (by omega)
theorem digs_great {l : List UInt8} {y : UInt8} (hl : 9 ≤ l.length) (h : l[1]? = some y) (h8 : 127 < y.toNat) : 9223372036854775808 ≤ val (digs l 8) := by
  have hL := digs_length (k := 8) (l := l) hl
  have hh := digs_head (l := l) (k := 8) (by omega)
  rw [h] at hh
  cases hd : digs l 8 with
  | nil => rw [hd] at hL; simp at hL
  | cons z r =>
    rw [hd] at hh hL
    simp at hh hL
    subst hh
    have := (val_eight (x := z) hL)
    omega

def tup3 (x : Nat × Nat × Int) : Ending := .returned (.tuple #[.int .i64 (x.1 : Int), .int .i64 (x.2.1 : Int), .int .i64 x.2.2])

set_option maxHeartbeats 2000000 in
theorem decoded_any (A : Option Addr) (l : List UInt8) (n c : Nat) (hn : l.length = n) (hc : n ≤ c) (hL : n ≤ 1099511627776) (w : World) (hb : Byt w w.heap.size A l) :
    Calls Try.prog 52 #[.slice A n c] w fun er w' => er = tup3 (look l) ∧ w = w' := by
  by_cases h0 : n = 0
  · subst h0
    have HE := hid (look_nil hn)
    go_enter Try.func52, Try.ntmps52
    go_wp2
    go_ret3
    exact ⟨by rw [HE.out]; rfl, rfl⟩
  obtain ⟨ad, x, rfl, had, hx, hcell0⟩ := hb.get (k := 0) (by omega)
  have hc00 : w.cell? ad = some (.int .u8 (x.toNat : Int)) := by rw [← add_zero ad]; exact hcell0
  have hx8 := lt8 x
  obtain ⟨k, hk⟩ : ∃ k, x.toNat = k := ⟨_, rfl⟩
  rw [hk] at hcell0 hc00 hx8
  have HK := hid hk
  have HX := hid hx
  have HN := hid hn
  by_cases hbig : 8 < k
  · have HE := hid (look_big hx (by omega))
    clear hk hx hn
    go_enter Try.func52, Try.ntmps52
    go_wp2
    go_ret3
    exact ⟨by rw [HE.out]; rfl, rfl⟩
  by_cases hfew : n < k + 1
  · have HE := hid (look_few hx (by omega) (by omega))
    clear hk hx hn
    have e1 : (n : Int) - 1 < (k : Int) := by omega
    go_enter Try.func52, Try.ntmps52
    go_wp2
    go_ret3
    exact ⟨by rw [HE.out]; rfl, rfl⟩
  have hLK := look_digs hx (by omega) (by omega)
  rw [hk] at hLK
  by_cases hk0 : k = 0
  · have HE : Hid (look l = (0, 1, 0)) := hid (by
      rw [hLK, hk0]
      have : digs l 0 = [] := by unfold digs; rw [List.drop_eq_nil_of_le]; rw [List.length_take]; omega
      rw [this, if_neg (by simp), val_nil, if_neg (by omega)])
    clear hk hx hn hLK hfew hbig
    subst hk0
    go_enter Try.func52, Try.ntmps52
    go_wp2
    all_goals
      refine wp_loop_rounds 1 ?_
      rw [rounds_succ]
      go_wp2
      go_ret3
      exact ⟨by rw [HE.out]; rfl, rfl⟩
  obtain ⟨ad', y, had', _, hy, hcell1⟩ := hb.get (k := 1) (by omega)
  injection had' with had'
  subst had'
  have hy8 := lt8 y
  have hcap : ¬ c = 1 := by omega
  have HY := hid hy
  have HH := hid (digs_head (l := l) (k := k) (by omega))
  have hkp : (0 : Int) < (k : Int) := by omega
  have hc10 : w.cell? ⟨ad.block, ad.off + 1, none⟩ = some (.int .u8 (y.toNat : Int)) := by rw [← add_pos ad 1 (by omega)]; exact hcell1
  have e0 : 1 + (k : Int) - 1 = (k : Int) := by omega
  have e1 : 1 + k - 1 = k := by omega
  by_cases hy0 : y.toNat = 0
  · have HE : Hid (look l = (0, 0, 2)) := hid (by
      rw [hLK, if_pos (by rw [HH.out, hy]; congr 1; exact UInt8.toNat_inj.1 hy0)])
    clear hk hx hn hLK hy
    go_enter Try.func52, Try.ntmps52
    go_wp2
    go_ret3
    exact ⟨by rw [HE.out]; rfl, rfl⟩
  by_cases h8 : k = 8 ∧ 127 < y.toNat
  · obtain ⟨rfl, h127⟩ := h8
    have HE : Hid (look l = (0, 0, 2)) := hid (by
      rw [hLK, if_neg (by rw [HH.out, hy]; intro e; injection e with e; rw [e] at hy0; exact hy0 rfl), if_pos (digs_great (by omega) hy h127)])
    clear hk hx hn hLK hy
    go_enter Try.func52, Try.ntmps52
    go_wp2
    go_ret3
    exact ⟨by rw [HE.out]; rfl, rfl⟩
  have hfit := digs_fits (l := l) (y := y) (by omega) (by omega) (fun _ => hy) h8
  have HE : Hid (look l = (val (digs l k), k + 1, 0)) := hid (by
      rw [hLK, if_neg (by rw [HH.out, hy]; intro e; injection e with e; rw [e] at hy0; exact hy0 rfl), if_neg (by omega)])
  have hdl := digs_length (l := l) (k := k) (by omega)
  have HDL := hid hdl
  have HFIT := hid hfit
  clear hk hx hLK hy hdl hfit hn
  by_cases hk8 : k = 8
  · have hyb : (y.toNat : Int) ≤ 127 := by omega
    have hyb2 : ¬ (127 : Int) < (y.toNat : Int) := by omega
    clear h8
    subst hk8
    go_enter Try.func52, Try.ntmps52
    go_wp2
    go_loopw [2, 47] (fun v i wr => ∃ j V : Nat, v = .int .i64 (V : Int) ∧ i = .int .i64 (j : Int) ∧ j ≤ 8 ∧ Hid (V = val ((digs l 8).take j)) ∧ w = wr) (fun _ i _ => 8 - (intOf i).toNat)
    case atStart => exact ⟨0, 0, rfl, rfl, by omega, hid rfl, rfl⟩
    case round =>
      obtain ⟨j, V, rfl, rfl, hj, HV, rfl⟩ := hrel
      by_cases hlt : j < 8
      · obtain ⟨ad', z, had', _, hz, hcz⟩ := hb.get (k := j + 1) (by rw [HN.out]; omega)
        injection had' with had'
        subst had'
        have hz8 := lt8 z
        have hcz1 : w.cell? ⟨ad.block, ad.off + 1 + j, none⟩ = some (.int .u8 (z.toNat : Int)) := by
          rw [add_pos _ _ (by omega)] at hcz
          rw [show ad.off + 1 + j = ad.off + (j + 1) by omega]; exact hcz
        have HT := hid (val_take_succ (l := digs l 8) (k := j) (x := z) (by rw [digs_get hlt]; exact hz))
        have hVb : 256 * V + z.toNat < 9223372036854775808 := by
          have h1 := HT.out
          have h2 := val_mono_take (digs l 8) (j + 1)
          have h3 := HFIT.out
          have h4 := HV.out
          omega
        have hj0 : (j : Int) < 8 := by omega
        clear hz hcz
        have HOR : Hid (bits .or .i64 ((V : Int) * 256) (z.toNat : Int) = ((256 * V + z.toNat : Nat) : Int)) := hid (by rw [← or_digit V z.toNat hz8 hVb]; congr 1; omega)
        have HS : Hid (256 * V + z.toNat = val ((digs l 8).take (j + 1))) := hid (by rw [HT.out, HV.out])
        go_wp2
        go_roundw
        case rel => exact ⟨j + 1, 256 * V + z.toNat, by rw [HOR.out], by go_num, by omega, HS, trivial⟩
        case measure => simp [intOf]; omega
      · have hjk : j = 8 := by omega
        have HVE : Hid (val (digs l 8) = V) := hid (by rw [HV.out, List.take_of_length_le (by rw [HDL.out]; omega)])
        have hlt' : ¬ (j : Int) < 8 := by omega
        go_wp2
        go_ret3
        exact ⟨by rw [HE.out, HVE.out]; simp [tup3] <;> omega, rfl⟩
  · have hk8' : ¬ (k : Int) = 8 := by omega
    clear h8
    go_enter Try.func52, Try.ntmps52
    go_wp2
    go_loopw [2, 47] (fun v i wr => ∃ j V : Nat, v = .int .i64 (V : Int) ∧ i = .int .i64 (j : Int) ∧ j ≤ k ∧ Hid (V = val ((digs l k).take j)) ∧ w = wr) (fun _ i _ => k - (intOf i).toNat)
    case atStart => exact ⟨0, 0, rfl, rfl, by omega, hid rfl, rfl⟩
    case round =>
      obtain ⟨j, V, rfl, rfl, hj, HV, rfl⟩ := hrel
      by_cases hlt : j < k
      · obtain ⟨ad', z, had', _, hz, hcz⟩ := hb.get (k := j + 1) (by rw [HN.out]; omega)
        injection had' with had'
        subst had'
        have hz8 := lt8 z
        have hcz1 : w.cell? ⟨ad.block, ad.off + 1 + j, none⟩ = some (.int .u8 (z.toNat : Int)) := by
          rw [add_pos _ _ (by omega)] at hcz
          rw [show ad.off + 1 + j = ad.off + (j + 1) by omega]; exact hcz
        have HT := hid (val_take_succ (l := digs l k) (k := j) (x := z) (by rw [digs_get hlt]; exact hz))
        have hVb : 256 * V + z.toNat < 9223372036854775808 := by
          have h1 := HT.out
          have h2 := val_mono_take (digs l k) (j + 1)
          have h3 := HFIT.out
          have h4 := HV.out
          omega
        have hj0 : (j : Int) < (k : Int) := by omega
        clear hz hcz
        have HOR : Hid (bits .or .i64 ((V : Int) * 256) (z.toNat : Int) = ((256 * V + z.toNat : Nat) : Int)) := hid (by rw [← or_digit V z.toNat hz8 hVb]; congr 1; omega)
        have HS : Hid (256 * V + z.toNat = val ((digs l k).take (j + 1))) := hid (by rw [HT.out, HV.out])
        go_wp2
        go_roundw
        case rel => exact ⟨j + 1, 256 * V + z.toNat, by rw [HOR.out], by go_num, by omega, HS, trivial⟩
        case measure => simp [intOf]; omega
      · have hjk : j = k := by omega
        have HVE : Hid (val (digs l k) = V) := hid (by rw [HV.out, List.take_of_length_le (by rw [HDL.out]; omega)])
        have hlt' : ¬ (j : Int) < (k : Int) := by omega
        go_wp2
        go_ret3
        exact ⟨by rw [HE.out, HVE.out]; simp [tup3] <;> omega, rfl⟩
end Go.Proofs.Ytkaakbgpkpkeeaa.Sh
