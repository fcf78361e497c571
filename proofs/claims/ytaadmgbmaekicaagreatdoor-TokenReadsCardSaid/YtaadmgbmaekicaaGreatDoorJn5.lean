/-
  decoded: the number that bytes begin with.
-/
import Derived.Test.YtaadmgbmaekicaaGreatDoorJn4
set_option linter.unusedVariables false
set_option linter.unusedSimpArgs false
namespace Go.Proofs.YtaadmgbmaekicaaGreatDoor.Sh
open Go Go.RowKit

theorem i64_or_nat (a b : Nat) (ha : a < 9223372036854775808) (hb : b < 9223372036854775808) : bits .or .i64 (a : Int) (b : Int) = ((a ||| b : Nat) : Int) := by
  have ho : ∀ a : Nat, a < 9223372036854775808 → (BitVec.ofInt 64 (a : Int)).toNat = a := fun a ha => by
    rw [BitVec.ofInt_natCast, BitVec.toNat_ofNat]; exact Nat.mod_eq_of_lt (by omega)
  show IntKind.i64.wrap ((BitVec.ofInt 64 (a : Int) ||| BitVec.ofInt 64 (b : Int)).toNat : Int) = _
  rw [BitVec.toNat_or, ho a ha, ho b hb, IntKind.wrap_i64]
  have : a ||| b < 2 ^ 63 := Nat.or_lt_two_pow (by omega) (by omega)
  omega
theorem or_digit (v d : Nat) (hd : d < 256) (h : 256 * v + d < 9223372036854775808) : bits .or .i64 ((256 * v : Nat) : Int) (d : Int) = ((256 * v + d : Nat) : Int) := by
  rw [i64_or_nat _ _ (by omega) (by omega), nat_join 8 (256 * v) d (by omega) (by omega)]

theorem look_nil {l : List UInt8} (h : l.length = 0) : look l = (0, 0, 3) := by
  rw [List.eq_nil_of_length_eq_zero h]; rfl
theorem look_cons {l : List UInt8} {x : UInt8} (h : l[0]? = some x) : ∃ t, l = x :: t ∧ t.length + 1 = l.length := by
  cases l with
  | nil => simp at h
  | cons y t => simp at h; subst h; exact ⟨t, rfl, by simp⟩
theorem look_big {l : List UInt8} {x : UInt8} (h : l[0]? = some x) (hx : 8 < x.toNat) : look l = (0, 0, 2) := by
  obtain ⟨t, rfl, _⟩ := look_cons h
  simp only [look]; rw [if_pos hx]
theorem look_few {l : List UInt8} {x : UInt8} (h : l[0]? = some x) (hx : x.toNat ≤ 8) (hl : l.length < x.toNat + 1) : look l = (0, 0, 3) := by
  obtain ⟨t, rfl, h2⟩ := look_cons h
  simp only [look]; rw [if_neg (by omega), if_pos (by omega)]
/-- The digits that a first byte of k names. -/
def digs (l : List UInt8) (k : Nat) : List UInt8 := (l.take (1 + k)).drop 1
theorem digs_get {l : List UInt8} {k j : Nat} (h : j < k) : (digs l k)[j]? = l[j + 1]? := by
  unfold digs
  rw [List.getElem?_drop, List.getElem?_take, if_pos (by omega), Nat.add_comm]
theorem digs_length {l : List UInt8} {k : Nat} (h : k + 1 ≤ l.length) : (digs l k).length = k := by
  unfold digs; rw [List.length_drop, List.length_take]; omega
theorem look_digs {l : List UInt8} {x : UInt8} (h : l[0]? = some x) (hx : x.toNat ≤ 8) (hl : x.toNat + 1 ≤ l.length) :
    look l = if (digs l x.toNat).head? = some 0 then (0, 0, 2) else if 9223372036854775808 ≤ val (digs l x.toNat) then (0, 0, 2) else (val (digs l x.toNat), x.toNat + 1, 0) := by
  obtain ⟨t, rfl, h2⟩ := look_cons h
  have : digs (x :: t) x.toNat = t.take x.toNat := by unfold digs; rw [Nat.add_comm, List.take_succ_cons]; rfl
  simp only [look, this]
  rw [if_neg (by omega), if_neg (by omega)]
theorem digs_head {l : List UInt8} {k : Nat} (hk : 0 < k) : (digs l k).head? = l[1]? := by
  rw [List.head?_eq_getElem?, digs_get hk]
theorem digs_fits {l : List UInt8} {k : Nat} {y : UInt8} (hk : k ≤ 8) (hl : k + 1 ≤ l.length) (h : 0 < k → l[1]? = some y) (h8 : ¬ (k = 8 ∧ 127 < y.toNat)) : val (digs l k) < 9223372036854775808 := by
  have hL := digs_length hl
  by_cases h7 : k ≤ 7
  · exact val_seven (by omega)
  · have hk8 : k = 8 := by omega
    subst hk8
    have hh := digs_head (l := l) (k := 8) (by omega)
    rw [h (by omega)] at hh
    cases hd : digs l 8 with
    | nil => rw [hd] at hL; simp at hL
    | cons z r =>
      rw [hd] at hh hL
      simp at hh hL
      subst hh
      exact (val_eight hL).2 (by omega)
theorem digs_great {l : List UInt8} {y : UInt8} (hl : 9 ≤ l.length) (h : l[1]? = some y) (h8 : 127 < y.toNat) : 9223372036854775808 ≤ val (digs l 8) := by
  have hL := digs_length (k := 8) (l := l) hl
  have hh := digs_head (l := l) (k := 8) (by omega)
  rw [h] at hh
  cases hd : digs l 8 with
  | nil => rw [hd] at hL; simp at hL
  | cons z r =>
    rw [hd] at hh hL
    simp at hh hL
    subst hh
    have := (val_eight (x := z) hL)
    omega

def tup3 (x : Nat × Nat × Int) : Ending := .returned (.tuple #[.int .i64 (x.1 : Int), .int .i64 (x.2.1 : Int), .int .i64 x.2.2])

set_option maxHeartbeats 2000000 in
theorem decoded_any (A : Option Addr) (l : List UInt8) (n c : Nat) (hn : l.length = n) (hc : n ≤ c) (hL : n ≤ 1099511627776) (w : World) (hb : Byt w w.heap.size A l) :
    Calls Tryz.prog 119 #[.slice A n c] w fun er w' => er = tup3 (look l) ∧ w = w' := by
  by_cases h0 : n = 0
  · subst h0
    have HE := hid (look_nil hn)
    go_enter Tryz.func119, Tryz.ntmps119
    go_wp2
    go_ret3
    exact ⟨by rw [HE.out]; rfl, rfl⟩
  obtain ⟨ad, x, rfl, had, hx, hcell0⟩ := hb.get (k := 0) (by omega)
  have hc00 : w.cell? ad = some (.int .u8 (x.toNat : Int)) := by rw [← add_zero ad]; exact hcell0
  have hx8 := lt8 x
  obtain ⟨k, hk⟩ : ∃ k, x.toNat = k := ⟨_, rfl⟩
  rw [hk] at hcell0 hc00 hx8
  have HK := hid hk
  have HX := hid hx
  have HN := hid hn
  by_cases hbig : 8 < k
  · have HE := hid (look_big hx (by omega))
    clear hk hx hn
    go_enter Tryz.func119, Tryz.ntmps119
    go_wp2
    go_ret3
    exact ⟨by rw [HE.out]; rfl, rfl⟩
  by_cases hfew : n < k + 1
  · have HE := hid (look_few hx (by omega) (by omega))
    clear hk hx hn
    have e1 : (n : Int) - 1 < (k : Int) := by omega
    go_enter Tryz.func119, Tryz.ntmps119
    go_wp2
    go_ret3
    exact ⟨by rw [HE.out]; rfl, rfl⟩
  have hLK := look_digs hx (by omega) (by omega)
  rw [hk] at hLK
  by_cases hk0 : k = 0
  · have HE : Hid (look l = (0, 1, 0)) := hid (by
      rw [hLK, hk0]
      have : digs l 0 = [] := by unfold digs; rw [List.drop_eq_nil_of_le]; rw [List.length_take]; omega
      rw [this, if_neg (by simp), val_nil, if_neg (by omega)])
    clear hk hx hn hLK hfew hbig
    subst hk0
    go_enter Tryz.func119, Tryz.ntmps119
    go_wp2
    all_goals
      refine wp_loop_rounds 1 ?_
      rw [rounds_succ]
      go_wp2
      go_ret3
      exact ⟨by rw [HE.out]; rfl, rfl⟩
  obtain ⟨ad', y, had', _, hy, hcell1⟩ := hb.get (k := 1) (by omega)
  injection had' with had'
  subst had'
  have hy8 := lt8 y
  have hcap : ¬ c = 1 := by omega
  have HY := hid hy
  have HH := hid (digs_head (l := l) (k := k) (by omega))
  have hkp : (0 : Int) < (k : Int) := by omega
  have hc10 : w.cell? ⟨ad.block, ad.off + 1, none⟩ = some (.int .u8 (y.toNat : Int)) := by rw [← add_pos ad 1 (by omega)]; exact hcell1
  have e0 : 1 + (k : Int) - 1 = (k : Int) := by omega
  have e1 : 1 + k - 1 = k := by omega
  by_cases hy0 : y.toNat = 0
  · have HE : Hid (look l = (0, 0, 2)) := hid (by
      rw [hLK, if_pos (by rw [HH.out, hy]; congr 1; exact UInt8.toNat_inj.1 hy0)])
    clear hk hx hn hLK hy
    go_enter Tryz.func119, Tryz.ntmps119
    go_wp2
    go_ret3
    exact ⟨by rw [HE.out]; rfl, rfl⟩
  by_cases h8 : k = 8 ∧ 127 < y.toNat
  · obtain ⟨rfl, h127⟩ := h8
    have HE : Hid (look l = (0, 0, 2)) := hid (by
      rw [hLK, if_neg (by rw [HH.out, hy]; intro e; injection e with e; rw [e] at hy0; exact hy0 rfl), if_pos (digs_great (by omega) hy h127)])
    clear hk hx hn hLK hy
    go_enter Tryz.func119, Tryz.ntmps119
    go_wp2
    go_ret3
    exact ⟨by rw [HE.out]; rfl, rfl⟩
  have hfit := digs_fits (l := l) (y := y) (by omega) (by omega) (fun _ => hy) h8
  have HE : Hid (look l = (val (digs l k), k + 1, 0)) := hid (by
      rw [hLK, if_neg (by rw [HH.out, hy]; intro e; injection e with e; rw [e] at hy0; exact hy0 rfl), if_neg (by omega)])
  have hdl := digs_length (l := l) (k := k) (by omega)
  have HDL := hid hdl
  have HFIT := hid hfit
  clear hk hx hLK hy hdl hfit hn
  by_cases hk8 : k = 8
  · have hyb : (y.toNat : Int) ≤ 127 := by omega
    have hyb2 : ¬ (127 : Int) < (y.toNat : Int) := by omega
    clear h8
    subst hk8
    go_enter Tryz.func119, Tryz.ntmps119
    go_wp2
    go_loopw [2, 47] (fun v i wr => ∃ j V : Nat, v = .int .i64 (V : Int) ∧ i = .int .i64 (j : Int) ∧ j ≤ 8 ∧ Hid (V = val ((digs l 8).take j)) ∧ w = wr) (fun _ i _ => 8 - (intOf i).toNat)
    case atStart => exact ⟨0, 0, rfl, rfl, by omega, hid rfl, rfl⟩
    case round =>
      obtain ⟨j, V, rfl, rfl, hj, HV, rfl⟩ := hrel
      by_cases hlt : j < 8
      · obtain ⟨ad', z, had', _, hz, hcz⟩ := hb.get (k := j + 1) (by rw [HN.out]; omega)
        injection had' with had'
        subst had'
        have hz8 := lt8 z
        have hcz1 : w.cell? ⟨ad.block, ad.off + 1 + j, none⟩ = some (.int .u8 (z.toNat : Int)) := by
          rw [add_pos _ _ (by omega)] at hcz
          rw [show ad.off + 1 + j = ad.off + (j + 1) by omega]; exact hcz
        have HT := hid (val_take_succ (l := digs l 8) (k := j) (x := z) (by rw [digs_get hlt]; exact hz))
        have hVb : 256 * V + z.toNat < 9223372036854775808 := by
          have h1 := HT.out
          have h2 := val_mono_take (digs l 8) (j + 1)
          have h3 := HFIT.out
          have h4 := HV.out
          omega
        have hj0 : (j : Int) < 8 := by omega
        clear hz hcz
        have HOR : Hid (bits .or .i64 ((V : Int) * 256) (z.toNat : Int) = ((256 * V + z.toNat : Nat) : Int)) := hid (by rw [← or_digit V z.toNat hz8 hVb]; congr 1; omega)
        have HS : Hid (256 * V + z.toNat = val ((digs l 8).take (j + 1))) := hid (by rw [HT.out, HV.out])
        go_wp2
        go_roundw
        case rel => exact ⟨j + 1, 256 * V + z.toNat, by rw [HOR.out], by go_num, by omega, HS, trivial⟩
        case measure => simp [intOf]; omega
      · have hjk : j = 8 := by omega
        have HVE : Hid (val (digs l 8) = V) := hid (by rw [HV.out, List.take_of_length_le (by rw [HDL.out]; omega)])
        have hlt' : ¬ (j : Int) < 8 := by omega
        go_wp2
        go_ret3
        exact ⟨by rw [HE.out, HVE.out]; simp [tup3] <;> omega, rfl⟩
  · have hk8' : ¬ (k : Int) = 8 := by omega
    clear h8
    go_enter Tryz.func119, Tryz.ntmps119
    go_wp2
    go_loopw [2, 47] (fun v i wr => ∃ j V : Nat, v = .int .i64 (V : Int) ∧ i = .int .i64 (j : Int) ∧ j ≤ k ∧ Hid (V = val ((digs l k).take j)) ∧ w = wr) (fun _ i _ => k - (intOf i).toNat)
    case atStart => exact ⟨0, 0, rfl, rfl, by omega, hid rfl, rfl⟩
    case round =>
      obtain ⟨j, V, rfl, rfl, hj, HV, rfl⟩ := hrel
      by_cases hlt : j < k
      · obtain ⟨ad', z, had', _, hz, hcz⟩ := hb.get (k := j + 1) (by rw [HN.out]; omega)
        injection had' with had'
        subst had'
        have hz8 := lt8 z
        have hcz1 : w.cell? ⟨ad.block, ad.off + 1 + j, none⟩ = some (.int .u8 (z.toNat : Int)) := by
          rw [add_pos _ _ (by omega)] at hcz
          rw [show ad.off + 1 + j = ad.off + (j + 1) by omega]; exact hcz
        have HT := hid (val_take_succ (l := digs l k) (k := j) (x := z) (by rw [digs_get hlt]; exact hz))
        have hVb : 256 * V + z.toNat < 9223372036854775808 := by
          have h1 := HT.out
          have h2 := val_mono_take (digs l k) (j + 1)
          have h3 := HFIT.out
          have h4 := HV.out
          omega
        have hj0 : (j : Int) < (k : Int) := by omega
        clear hz hcz
        have HOR : Hid (bits .or .i64 ((V : Int) * 256) (z.toNat : Int) = ((256 * V + z.toNat : Nat) : Int)) := hid (by rw [← or_digit V z.toNat hz8 hVb]; congr 1; omega)
        have HS : Hid (256 * V + z.toNat = val ((digs l k).take (j + 1))) := hid (by rw [HT.out, HV.out])
        go_wp2
        go_roundw
        case rel => exact ⟨j + 1, 256 * V + z.toNat, by rw [HOR.out], by go_num, by omega, HS, trivial⟩
        case measure => simp [intOf]; omega
      · have hjk : j = k := by omega
        have HVE : Hid (val (digs l k) = V) := hid (by rw [HV.out, List.take_of_length_le (by rw [HDL.out]; omega)])
        have hlt' : ¬ (j : Int) < (k : Int) := by omega
        go_wp2
        go_ret3
        exact ⟨by rw [HE.out, HVE.out]; simp [tup3] <;> omega, rfl⟩
end Go.Proofs.YtaadmgbmaekicaaGreatDoor.Sh
/-
  A cursor's Number.
-/
namespace Go.Proofs.YtaadmgbmaekicaaGreatDoor.Sh
open Go Go.RowKit

/-- What Number answers, the place and the error behind it. -/
def numStep (l : List UInt8) (p : Nat) (e least most : Int) : Int × Nat × Int :=
  if e ≠ 0 then (0, p, e)
  else if (look (l.drop p)).2.2 ≠ 0 then (0, p, (look (l.drop p)).2.2)
  else if ((look (l.drop p)).1 : Int) < least ∨ most < ((look (l.drop p)).1 : Int) then (0, p, 2)
  else (((look (l.drop p)).1 : Int), p + (look (l.drop p)).2.1, 0)
/-- A call on a cursor: the answer, the cursor behind it, nothing else turned. -/
def Step (T : TypeId) (w w' : World) (g : Nat) (A : Option Addr) (n c : Nat) (er : Ending) (x : Int × Nat × Int) : Prop :=
  er = .returned (.int .i64 x.1) ∧ CuRow T w' g A n c x.2.1 x.2.2 ∧ w.grownBy w' (some g)
theorem look_zero {l : List UInt8} {N U : Nat} (h : look l = (N, U, 0)) : N < 9223372036854775808 ∧ U ≤ l.length ∧ 0 < U := by
  obtain ⟨h1, h2, _, h3⟩ := look_ok h
  exact ⟨h1, h2, by rw [h3, enc_length]; omega⟩
theorem look_nz {l : List UInt8} {N U : Nat} {E : Int} (h : look l = (N, U, E)) (hE : E ≠ 0) : E = 2 ∨ E = 3 := by
  rcases look_cases l with ⟨a, b, h1⟩ | h1 | h1 <;> rw [h1] at h <;> simp only [Prod.mk.injEq] at h
  · exact absurd h.2.2.symm hE
  · exact .inl h.2.2.symm
  · exact .inr h.2.2.symm

set_option maxHeartbeats 2000000 in
theorem cnum_any (g : Nat) (A : Option Addr) (l : List UInt8) (n c p : Nat) (e least most : Int) (hn : l.length = n) (hc : n ≤ c) (hL : n ≤ 1099511627776) (hp : p ≤ n)
    (w : World) (h : CuRow 76 w g A n c p e) (hb : Byt w g A l) :
    Calls Tryz.prog 87 #[.pointer (some ⟨g, 0, none⟩), .int .i64 least, .int .i64 most] w fun er w' => Step 76 w w' g A n c er (numStep l p e least most) := by
  have h0 := h.c0
  have h1 := h.c1
  have h2 := h.c2
  have f1 := h.f 1
  have H := hid h
  by_cases he : e ≠ 0
  · have HE : Hid (numStep l p e least most = (0, p, e)) := hid (by unfold numStep; rw [if_pos he])
    clear h hb
    go_enter Tryz.func87, Tryz.ntmps87
    go_wp2
    go_ret
    rw [HE.out]
    exact ⟨rfl, H.out, World.grownBy.refl _ _⟩
  obtain rfl : e = 0 := by omega
  obtain ⟨N, U, E, hlk⟩ : ∃ N U E, look (l.drop p) = (N, U, E) := ⟨_, _, _, rfl⟩
  obtain ⟨B, hB⟩ : ∃ B, B = (if c = p then A else A.map (·.add p)) := ⟨_, rfl⟩
  have hcut : Byt w w.heap.size B (l.drop p) := by
    have := hb.cut (lo := p) (hi := n) (cap := c) hp (by omega) (by omega)
    rw [List.take_of_length_le (by omega), ← hB] at this
    exact this.more (Nat.le_of_lt h.lt)
  have HD := hid (fun k => decoded_any B (l.drop p) (n - p) (c - p) (by rw [List.length_drop]; omega) (by omega) (by omega) (w.drewN k) (hcut.drewN k))
  rw [hlk] at HD
  unfold tup3 at HD
  have eB := hB.symm
  have HS : Hid (numStep l p 0 least most = if E ≠ 0 then (0, p, E) else if (N : Int) < least ∨ most < (N : Int) then (0, p, 2) else ((N : Int), p + U, 0)) := hid (by
    unfold numStep; rw [if_neg (by simp), hlk])
  have HLK := hid hlk
  have hEc : E = 0 ∨ E ≠ 0 := by omega
  have hUb : E = 0 → N < 9223372036854775808 ∧ p + U ≤ n := by
    rintro rfl
    have := look_zero hlk
    rw [List.length_drop] at this
    omega
  have hpc : (p : Int) ≤ (n : Int) := by omega
  have hnc : (n : Int) ≤ (c : Int) := by omega
  clear h hb hB hcut hlk he hn
  go_enter Tryz.func87, Tryz.ntmps87
  go_wp2_with fail
  go_quiet ((go_at_call 119; exact quiet_left (HD.out _)))
  have HF := hid (fun (z : Int) => fail_any g A n c p 0 z (w.drewN nq) (H.out.drewN nq))
  have HG := hid (grown_drewN w nq (some g))
  by_cases hE : E = 0
  · subst hE
    obtain ⟨hN, hU⟩ := hUb rfl
    clear hUb hEc
    by_cases hlo : (N : Int) < least
    · have HR : Hid (numStep l p 0 least most = (0, p, 2)) := hid (by rw [HS.out, if_neg (by simp), if_pos (.inl hlo)])
      go_wp2_with fail
      refine (HF.out _).mono ?_
      rintro er w2 ⟨rfl, hc2, hg2⟩
      have HC2 := hid hc2
      have HG2 := hid (HG.out.trans hg2)
      clear hc2 hg2
      go_wp2
      go_ret
      rw [HR.out]
      exact ⟨rfl, HC2.out, HG2.out⟩
    · by_cases hhi : most < (N : Int)
      · have HR : Hid (numStep l p 0 least most = (0, p, 2)) := hid (by rw [HS.out, if_neg (by simp), if_pos (.inr hhi)])
        go_wp2_with fail
        refine (HF.out _).mono ?_
        rintro er w2 ⟨rfl, hc2, hg2⟩
        have HC2 := hid hc2
        have HG2 := hid (HG.out.trans hg2)
        clear hc2 hg2
        go_wp2
        go_ret
        rw [HR.out]
        exact ⟨rfl, HC2.out, HG2.out⟩
      · have HR : Hid (numStep l p 0 least most = ((N : Int), p + U, 0)) := hid (by rw [HS.out, if_neg (by simp), if_neg (by omega)])
        have hpU : (p : Int) + (U : Int) ≤ 1099511627776 := by omega
        go_wp2
        go_ret
        rw [HR.out]
        exact ⟨rfl, (H.out.drewN nq).set1 (p + U) (by simp), HG.out.trans (grown_set _ _ _ _)⟩
  · have HR : Hid (numStep l p 0 least most = (0, p, E)) := hid (by rw [HS.out, if_pos hE])
    clear hUb hEc
    go_wp2_with fail
    refine (HF.out _).mono ?_
    rintro er w2 ⟨rfl, hc2, hg2⟩
    have HC2 := hid hc2
    have HG2 := hid (HG.out.trans hg2)
    clear hc2 hg2
    go_wp2
    go_ret
    rw [HR.out]
    exact ⟨rfl, HC2.out, HG2.out⟩
end Go.Proofs.YtaadmgbmaekicaaGreatDoor.Sh
