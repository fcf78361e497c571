/-
  Deeds that came in; the walk of TapePlays.
-/
import Derived.Test.YtdigfbgjefffiaaTpLives
namespace Go.Proofs.Ytdigfbgjefffiaa.Sh
open Go Go.RowKit

set_option linter.unusedSimpArgs false
set_option linter.unusedVariables false
/-- A deed as it lies in a row. -/
structure DH4 where
  kind : Int
  sd : Int
  z : Int
  A : Option Addr
  n : Nat
  c : Nat
def DH4.cells (h : DH4) : List Value := [.int .i64 h.kind, .int .i64 h.sd, .int .i64 h.z, .slice h.A h.n h.c]
def encDd : Enc DH4 := ⟨4, DH4.cells, by omega, fun _ => rfl, fun x u hu => by
  simp only [DH4.cells, List.mem_cons, List.not_mem_nil, or_false] at hu
  rcases hu with rfl | rfl | rfl | rfl <;> rfl⟩
structure DtAt (w : World) (Q : Nat → Prop) (h : DH4) (x : Dt) : Prop where
  kind : h.kind = x.1
  sd : h.sd = x.2.1
  z : h.z = x.2.2.1
  n : x.2.2.2.length = h.n
  nc : h.n ≤ h.c
  c : h.c ≤ 9223372036854775807
  k0 : -9223372036854775808 ≤ h.kind
  k1 : h.kind < 9223372036854775808
  s0 : -9223372036854775808 ≤ h.sd
  s1 : h.sd < 9223372036854775808
  z0 : -9223372036854775808 ≤ h.z
  z1 : h.z < 9223372036854775808
  el : BytQ w Q h.A x.2.2.2
theorem DtAt.below {w w' : World} {B : Nat} {h : DH4} {x : Dt} (a : DtAt w (fun b => b < B) h x) (hb : Below B w w') (hB : B ≤ w.heap.size) : DtAt w' (fun b => b < B) h x :=
  ⟨a.kind, a.sd, a.z, a.n, a.nc, a.c, a.k0, a.k1, a.s0, a.s1, a.z0, a.z1, fun hn => by
    obtain ⟨ad, e, h1, h2, h3⟩ := a.el hn
    refine ⟨ad, e, h1, Nat.lt_of_lt_of_le h1 (by have := hb.size; omega), fun j y hy => ?_⟩
    rw [← h3 j y hy]
    unfold World.cell?
    rw [block_add, hb.block _ h1]⟩
def Deeds4 (w : World) (B : Nat) (A : Option Addr) (xs : List Dt) : Prop :=
  ∃ hs : List DH4, hs.length = xs.length ∧ Els encDd w B A hs ∧ ∀ (i : Nat) (h : DH4) (x : Dt), hs[i]? = some h → xs[i]? = some x → DtAt w (fun b => b < B) h x
theorem Deeds4.below {w w' : World} {B : Nat} {A : Option Addr} {xs : List Dt} (h : Deeds4 w B A xs) (hb : Below B w w') (hB : B ≤ w.heap.size) : Deeds4 w' B A xs := by
  obtain ⟨hs, h1, h2, h3⟩ := h
  exact ⟨hs, h1, h2.below hb, fun i h x hi hx => (h3 i h x hi hx).below hb hB⟩
theorem Deeds4.at {w : World} {B : Nat} {A : Option Addr} {xs : List Dt} (h : Deeds4 w B A xs) {i : Nat} (hi : i < xs.length) : ∃ (ad aj : Addr) (dh : DH4) (x : Dt), xs[i]? = some x ∧ A = some ad ∧ ad.block < B ∧ ad.add (i * 4) = aj ∧ DtAt w (fun b => b < B) dh x ∧
    w.cell? aj = some (.int .i64 dh.kind) ∧ w.cell? ⟨aj.block, aj.off + 1, none⟩ = some (.int .i64 dh.sd) ∧ w.cell? ⟨aj.block, aj.off + 2, none⟩ = some (.int .i64 dh.z) ∧ w.cell? ⟨aj.block, aj.off + 3, none⟩ = some (.slice dh.A dh.n dh.c) := by
  obtain ⟨hs, h1, h2, h3⟩ := h
  obtain ⟨dh, hd⟩ : ∃ dh, hs[i]? = some dh := ⟨_, List.getElem?_eq_getElem (by omega)⟩
  obtain ⟨x, hx⟩ : ∃ x, xs[i]? = some x := ⟨_, List.getElem?_eq_getElem hi⟩
  obtain ⟨ad, aj, e1, hb, e2, hbj, g0, g1⟩ := h2.get hd
  exact ⟨ad, aj, dh, x, hx, e1, hb, e2, h3 i dh x hd hx, g0 _ rfl, g1 1 _ (by omega) rfl, g1 2 _ (by omega) rfl, g1 3 _ (by omega) rfl⟩
/-- The state behind the first k deeds. -/
def stepsT (xs : List Dt) (k : Nat) : TS := (xs.take k).foldl TS.step TS.new
theorem stepsT_succ {xs : List Dt} {k : Nat} {x : Dt} (h : xs[k]? = some x) : stepsT xs (k + 1) = (stepsT xs k).step x := by
  unfold stepsT
  rw [take_snoc_of h, List.foldl_append]; rfl
theorem stepsT_us (xs : List Dt) (k : Nat) : (stepsT xs k).us.length ≤ 60 * k := by
  induction k with
  | zero => exact Nat.le_refl _
  | succ k ih =>
    rcases Nat.lt_or_ge k xs.length with h | h
    · rw [stepsT_succ (List.getElem?_eq_getElem h)]
      have := TS.step_us (stepsT xs k) xs[k]
      omega
    · have e : stepsT xs (k + 1) = stepsT xs k := by unfold stepsT; rw [List.take_of_length_le (by omega), List.take_of_length_le (by omega)]
      rw [e]; omega
/-- Both tapes, made since w0. -/
def BthX (w0 w : World) (gs gr : Nat) (S : TS) : Prop := (∃ P R, Bth w P R gs gr S ∧ ∀ b, (P b ∨ R b) → w0.heap.size ≤ b) ∧ Below w0.heap.size w0 w
theorem BthX.did {w0 w w' : World} {P R : Nat → Prop} {gs gr : Nat} {S : TS} (hb : Below w0.heap.size w0 w) (hP : ∀ b, (P b ∨ R b) → w0.heap.size ≤ b) (h : Did w w' P R gs gr S) : BthX w0 w' gs gr S := by
  obtain ⟨⟨P', R', h1, h2, h3⟩, h4⟩ := h
  have hs := hb.size
  refine ⟨⟨P', R', h1, fun b hb2 => hb2.elim (fun h => (h2 b h).elim (fun h => hP b (.inl h)) (fun h => by omega)) (fun h => (h3 b h).elim (fun h => hP b (.inr h)) (fun h => by omega))⟩, Grew.then_below hb h4 hb.size hP⟩
theorem BthX.start (w : World) {P R : Nat → Prop} {w1 w2 : World} {gs gr : Nat} (hp : TapP w1 (fun x => w.heap.size ≤ x ∧ x < w1.heap.size) gs TS.new) (h1 : Below w.heap.size w w1) (hr : TapR w2 (fun x => w1.heap.size ≤ x ∧ x < w2.heap.size) gr TS.new) (h2 : Below w1.heap.size w1 w2) : BthX w w2 gs gr TS.new := by
  have hs := h1.size
  exact ⟨⟨_, _, ⟨hp.below h2, hr, fun b hb hb2 => by have := hb.2; have := hb2.1; omega⟩, fun b hb => hb.elim (·.1) (fun h => by have := h.1; omega)⟩, h1.trans (h2.mono hs)⟩
set_option maxHeartbeats 8000000 in
theorem tapePlays_walk (A : Option Addr) (xs : List Dt) (n c : Nat) (hn : xs.length = n) (hc : n ≤ c) (hc2 : c ≤ 9223372036854775807) (w : World) (h : Deeds4 w w.heap.size A xs) :
    Calls Try.prog 3 #[.slice A n c] w fun e w' => e = .returned (.bool true) ∧ Below w.heap.size w w' := by
  have HN := hid hn
  have HDD := hid (fun W (hW : Below w.heap.size w W) => h.below hW (Nat.le_refl _))
  have H1 := hid (newP_any w)
  have H2 := hid (fun W => refNew_any W)
  clear h hn
  go_enter Try.func3, Try.ntmps3
  go_wp2_with fail
  refine H1.out.mono ?_
  rintro er w1 ⟨gs, rfl, -, p1, b1⟩
  have HP1 := hid p1
  have HB1 := hid b1
  clear p1 b1
  go_wp2_with fail
  refine (H2.out w1).mono ?_
  rintro er w2 ⟨gr, rfl, -, r2, b2⟩
  have HX := hid (BthX.start w (P := fun _ => False) (R := fun _ => False) HP1.out HB1.out r2 b2)
  clear r2 b2
  go_wp2_with fail
  go_loopw [5] (fun i wr => ∃ (k : Nat), k ≤ n ∧ k ≤ 60 ∧ i = .int .i64 (k : Int) ∧ Hid (BthX w wr gs gr (stepsT xs k))) (fun i _ => n - (intOf i).toNat)
  case atStart => exact ⟨0, by omega, by omega, rfl, HX⟩
  case round =>
    obtain ⟨wj, hwj⟩ : ∃ x, x = wr := ⟨_, rfl⟩
    subst hwj
    obtain ⟨k, hk, hk6, rfl, HBX⟩ := hrel
    have hk0 : (0 : Int) ≤ (k : Int) := Int.natCast_nonneg _
    by_cases hlt : k < n
    · have hk1 : (k : Int) < (n : Int) := by omega
      by_cases hl6 : k < 60
      · have hk2 : (k : Int) < 60 := by omega
        obtain ⟨ad, aj, dh, x, hx, rfl, had, ea, HA, c0, c1, c2, c3⟩ := (HDD.out wj HBX.out.2).at (i := k) (by rw [HN.out]; exact hlt)
        have HST := hid (stepsT_succ hx)
        obtain ⟨⟨P, R, hb, hP⟩, hbel⟩ := HBX.out
        have hu := stepsT_us xs k
        have HDO := hid (does_any hb (by omega) dh.kind dh.sd dh.z HA.k0 HA.k1 HA.z0 HA.z1 dh.A x.2.2.2 dh.n dh.c HA.n HA.nc HA.c (fun b => b < w.heap.size) HA.el (fun b hb2 => ⟨fun hp => by have := hP b (.inl hp); omega, fun hp => by have := hP b (.inr hp); omega⟩))
        have ex : ((dh.kind, dh.sd, dh.z, x.2.2.2) : Dt) = x := by rw [HA.kind, HA.sd, HA.z]
        rw [ex] at HDO
        have HPP := hid hP
        have HBL := hid hbel
        clear hb hP hbel hx HA ex hu had
        go_wp2_with fail
        refine HDO.out.mono ?_
        rintro er w3 ⟨rfl, did⟩
        have HD3 := hid (BthX.did HBL.out HPP.out did)
        clear did
        rw [← HST.out] at HD3
        have HLK : Hid (Calls Try.prog 12 #[.pointer (some ⟨gs, 0, none⟩), .pointer (some ⟨gr, 0, none⟩)] w3 fun er w' => er = .returned (.bool true) ∧ BthX w w' gs gr (stepsT xs (k + 1))) := hid (by
          obtain ⟨⟨P, R, hb, hP⟩, hbel⟩ := HD3.out
          have hu := stepsT_us xs (k + 1)
          exact (like_any hb (by omega)).mono fun er w' ⟨a, b⟩ => ⟨a, ⟨P, R, hb.below b, hP⟩, hbel.trans (b.mono hbel.size)⟩)
        go_wp2_with fail
        refine HLK.out.mono ?_
        rintro er w4 ⟨rfl, hx4⟩
        have HX4 := hid hx4
        clear hx4
        go_wp2_with fail
        go_roundw
        case rel => exact ⟨k + 1, by omega, by omega, by go_num, HX4⟩
        case measure => simp [intOf]; omega
      · have hk2 : ¬ (k : Int) < 60 := by omega
        have HB := hid HBX.out.2
        go_wp2_with fail
        refine (lives_any _).mono ?_
        rintro er w9 ⟨rfl, b9⟩
        have HBF := hid (HB.out.trans (b9.mono HB.out.size))
        go_wp2
        go_ret
        exact ⟨rfl, HBF.out⟩
    · obtain rfl : k = n := by omega
      have HB := hid HBX.out.2
      go_wp2_with fail
      refine (lives_any _).mono ?_
      rintro er w9 ⟨rfl, b9⟩
      have HBF := hid (HB.out.trans (b9.mono HB.out.size))
      go_wp2
      go_ret
      exact ⟨rfl, HBF.out⟩
end Go.Proofs.Ytdigfbgjefffiaa.Sh
