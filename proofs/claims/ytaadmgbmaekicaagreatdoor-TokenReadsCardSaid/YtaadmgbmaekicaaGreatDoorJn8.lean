/-
  The document's own Number and Domain.
-/
import Derived.Test.YtaadmgbmaekicaaGreatDoorJn7
set_option linter.unusedVariables false
set_option linter.unusedSimpArgs false
namespace Go.Proofs.YtaadmgbmaekicaaGreatDoor.Sh
open Go Go.RowKit

theorem numL_two (d x : UInt8) : numL [d, x] = if d = 100 ∧ 49 ≤ x.toNat ∧ x.toNat ≤ 57 then x.toNat - 48 else 0 := rfl
theorem numL_three (d x y : UInt8) : numL [d, x, y] = if d = 100 ∧ 49 ≤ x.toNat ∧ x.toNat ≤ 57 ∧ 48 ≤ y.toNat ∧ y.toNat ≤ 57 ∧ 10 * (x.toNat - 48) + (y.toNat - 48) ≤ 16 then 10 * (x.toNat - 48) + (y.toNat - 48) else 0 := rfl
theorem ne100 {d : UInt8} (h : ¬ d.toNat = 100) : ¬ d = 100 := fun e => h (by rw [e]; rfl)

set_option maxHeartbeats 2000000 in
theorem refNnum_any (s : ByteArray) (w : World) :
    Calls Tryz.prog 113 #[.string s] w fun e w' => e = .returned (.int .i64 (numL s.data.toList : Int)) ∧ w = w' := by
  obtain ⟨l, hl⟩ : ∃ l, s.data.toList = l := ⟨_, rfl⟩
  have hsz := size_list s
  rw [hl] at hsz ⊢
  match l with
  | [] =>
    have h1 : (s.size : Int) < 2 := by simp at hsz; omega
    have HE : Hid (numL [] = 0) := hid rfl
    go_enter Tryz.func113, Tryz.ntmps113
    go_wp2
    go_ret
    exact ⟨by rw [HE.out]; rfl, rfl⟩
  | [d] =>
    have h1 : (s.size : Int) < 2 := by simp at hsz; omega
    have HE : Hid (numL [d] = 0) := hid rfl
    go_enter Tryz.func113, Tryz.ntmps113
    go_wp2
    go_ret
    exact ⟨by rw [HE.out]; rfl, rfl⟩
  | d :: x :: y :: z :: t =>
    have h1 : ¬ (s.size : Int) < 2 := by simp at hsz; omega
    have h3 : (3 : Int) < (s.size : Int) := by simp at hsz; omega
    have HE : Hid (numL (d :: x :: y :: z :: t) = 0) := hid rfl
    clear hl hsz
    go_enter Tryz.func113, Tryz.ntmps113
    go_wp2
    go_ret
    exact ⟨by rw [HE.out]; rfl, rfl⟩
  | [d, x] =>
    have hs2 : (s.size : Int) = 2 := by simp at hsz; omega
    obtain ⟨p0, e0⟩ := sget s (j := 0) (x := d) (by rw [hl]; rfl)
    obtain ⟨p1, e1⟩ := sget s (j := 1) (x := x) (by rw [hl]; rfl)
    have hd8 := lt8 d
    have hx8 := lt8 x
    clear hl hsz
    by_cases hd : ¬ d.toNat = 100
    · have HE : Hid (numL [d, x] = 0) := hid (by rw [numL_two]; exact if_neg (fun h => ne100 hd h.1))
      have ghd0 : ¬ (d.toNat : Int) = 100 := by omega
      go_enter Tryz.func113, Tryz.ntmps113
      go_wp2
      go_ret
      exact ⟨by rw [HE.out]; rfl, rfl⟩
    have khd0 : (d.toNat : Int) = 100 := by omega
    by_cases hx : x.toNat < 49
    · have HE : Hid (numL [d, x] = 0) := hid (by rw [numL_two]; exact if_neg (by omega))
      have ghx0 : (x.toNat : Int) < 49 := by omega
      go_enter Tryz.func113, Tryz.ntmps113
      go_wp2
      go_ret
      exact ⟨by rw [HE.out]; rfl, rfl⟩
    have khx0 : ¬ (x.toNat : Int) < 49 := by omega
    by_cases hxx : 57 < x.toNat
    · have HE : Hid (numL [d, x] = 0) := hid (by rw [numL_two]; exact if_neg (by omega))
      have ghxx0 : 57 < (x.toNat : Int) := by omega
      go_enter Tryz.func113, Tryz.ntmps113
      go_wp2
      go_ret
      exact ⟨by rw [HE.out]; rfl, rfl⟩
    have khxx0 : ¬ 57 < (x.toNat : Int) := by omega
    have HE : Hid (numL [d, x] = x.toNat - 48) := hid (by rw [numL_two]; exact if_pos ⟨UInt8.toNat_inj.1 (by show d.toNat = 100; omega), by omega, by omega⟩)
    have h16 : ¬ (16 : Int) < (x.toNat : Int) - 48 := by omega
    have ux : ((x.toNat : Int) - 48) % 256 = (x.toNat : Int) - 48 := by omega
    go_enter Tryz.func113, Tryz.ntmps113
    go_wp2
    go_ret
    exact ⟨ret_int (by rw [HE.out]; omega), rfl⟩
  | [d, x, y] =>
    have hs3 : (s.size : Int) = 3 := by simp at hsz; omega
    obtain ⟨p0, e0⟩ := sget s (j := 0) (x := d) (by rw [hl]; rfl)
    obtain ⟨p1, e1⟩ := sget s (j := 1) (x := x) (by rw [hl]; rfl)
    obtain ⟨p2, e2⟩ := sget s (j := 2) (x := y) (by rw [hl]; rfl)
    have hd8 := lt8 d
    have hx8 := lt8 x
    have hy8 := lt8 y
    clear hl hsz
    by_cases hd : ¬ d.toNat = 100
    · have HE : Hid (numL [d, x, y] = 0) := hid (by rw [numL_three]; exact if_neg (fun h => ne100 hd h.1))
      have ghd0 : ¬ (d.toNat : Int) = 100 := by omega
      go_enter Tryz.func113, Tryz.ntmps113
      go_wp2
      go_ret
      exact ⟨by rw [HE.out]; rfl, rfl⟩
    have khd0 : (d.toNat : Int) = 100 := by omega
    by_cases hx : x.toNat < 49
    · have HE : Hid (numL [d, x, y] = 0) := hid (by rw [numL_three]; exact if_neg (by omega))
      have ghx0 : (x.toNat : Int) < 49 := by omega
      go_enter Tryz.func113, Tryz.ntmps113
      go_wp2
      go_ret
      exact ⟨by rw [HE.out]; rfl, rfl⟩
    have khx0 : ¬ (x.toNat : Int) < 49 := by omega
    by_cases hxx : 57 < x.toNat
    · have HE : Hid (numL [d, x, y] = 0) := hid (by rw [numL_three]; exact if_neg (by omega))
      have ghxx0 : 57 < (x.toNat : Int) := by omega
      go_enter Tryz.func113, Tryz.ntmps113
      go_wp2
      go_ret
      exact ⟨by rw [HE.out]; rfl, rfl⟩
    have khxx0 : ¬ 57 < (x.toNat : Int) := by omega
    by_cases hy : y.toNat < 48
    · have HE : Hid (numL [d, x, y] = 0) := hid (by rw [numL_three]; exact if_neg (by omega))
      have ghy0 : (y.toNat : Int) < 48 := by omega
      have ux : ((x.toNat : Int) - 48) % 256 = (x.toNat : Int) - 48 := by omega
      go_enter Tryz.func113, Tryz.ntmps113
      go_wp2
      go_ret
      exact ⟨by rw [HE.out]; rfl, rfl⟩
    have khy0 : ¬ (y.toNat : Int) < 48 := by omega
    by_cases hyy : 57 < y.toNat
    · have HE : Hid (numL [d, x, y] = 0) := hid (by rw [numL_three]; exact if_neg (by omega))
      have ghyy0 : 57 < (y.toNat : Int) := by omega
      have ux : ((x.toNat : Int) - 48) % 256 = (x.toNat : Int) - 48 := by omega
      go_enter Tryz.func113, Tryz.ntmps113
      go_wp2
      go_ret
      exact ⟨by rw [HE.out]; rfl, rfl⟩
    have khyy0 : ¬ 57 < (y.toNat : Int) := by omega
    by_cases hbig : 16 < 10 * (x.toNat - 48) + (y.toNat - 48)
    · have HE : Hid (numL [d, x, y] = 0) := hid (by rw [numL_three]; exact if_neg (by omega))
      have ghbig0 : (16 : Int) < 10 * ((x.toNat : Int) - 48) + ((y.toNat : Int) - 48) := by omega
      have ux : ((x.toNat : Int) - 48) % 256 = (x.toNat : Int) - 48 := by omega
      have uy : ((y.toNat : Int) - 48) % 256 = (y.toNat : Int) - 48 := by omega
      go_enter Tryz.func113, Tryz.ntmps113
      go_wp2
      go_ret
      exact ⟨by rw [HE.out]; rfl, rfl⟩
    have khbig0 : ¬ (16 : Int) < 10 * ((x.toNat : Int) - 48) + ((y.toNat : Int) - 48) := by omega
    have HE : Hid (numL [d, x, y] = 10 * (x.toNat - 48) + (y.toNat - 48)) := hid (by rw [numL_three]; exact if_pos ⟨UInt8.toNat_inj.1 (by show d.toNat = 100; omega), by omega, by omega, by omega, by omega, by omega⟩)
    have ux : ((x.toNat : Int) - 48) % 256 = (x.toNat : Int) - 48 := by omega
    have uy : ((y.toNat : Int) - 48) % 256 = (y.toNat : Int) - 48 := by omega
    go_enter Tryz.func113, Tryz.ntmps113
    go_wp2
    go_ret
    exact ⟨ret_int (by rw [HE.out]; omega), rfl⟩
end Go.Proofs.YtaadmgbmaekicaaGreatDoor.Sh
/-
  The document's own Domain, Text, Less.
-/
namespace Go.Proofs.YtaadmgbmaekicaaGreatDoor.Sh
open Go Go.RowKit

theorem conv_one (w : World) (x : UInt8) (z : Int) (hz : z = (x.toNat : Int)) (src t : TypeId) (fr : Nat × Nat) (c : Nat) (hs : Tryz.prog.underlying src = some (.slice 5)) :
    (convert src 9 (.slice (some ⟨w.heap.size, 0, none⟩) 1 c)).run Tryz.prog (w.alloc (.cells #[.int .u8 z] t fr)) = .ok (.string ⟨[x].toArray⟩) (w.alloc (.cells #[.int .u8 z] t fr)) := by
  subst hz
  refine run_convert_bytes_back _ src 9 5 _ c [x] hs Tryz.underlying5 Tryz.underlying9 (fun j hj => ?_)
  obtain ⟨ad, he, hc⟩ := reads_one w x t fr (by simp [bv])
  obtain rfl := Option.some.inj he
  have hj0 : j = 0 := by simp at hj; omega
  subst hj0
  exact hc 0 _ rfl
theorem refDomain_any (n : Int) (h0 : -9223372036854775808 ≤ n) (h1 : n < 9223372036854775808) (w : World) :
    Calls Tryz.prog 96 #[.int .i64 n] w fun e w' => e = .returned (.string ⟨(domL n).toArray⟩) ∧ Below w.heap.size w w' := by
  by_cases hlo : n < 1
  · have HE := hid (domL_none n (.inl hlo))
    go_enter Tryz.func96, Tryz.ntmps96
    go_wp2
    go_ret
    exact ⟨by rw [HE.out]; rfl, Below.refl _ _⟩
  by_cases hhi : 16 < n
  · have HE := hid (domL_none n (.inr hhi))
    go_enter Tryz.func96, Tryz.ntmps96
    go_wp2
    go_ret
    exact ⟨by rw [HE.out]; rfl, Below.refl _ _⟩
  have e1 : (48 + n) % 256 = 48 + n := by omega
  by_cases h9 : n < 10
  · obtain ⟨x, hx⟩ : ∃ x, x = UInt8.ofNat (48 + n.toNat) := ⟨_, rfl⟩
    have hz : 48 + n = (x.toNat : Int) := by rw [hx, UInt8.toNat_ofNat']; omega
    have HE : Hid (domL n = [100, x]) := hid (by unfold domL; rw [if_neg (by omega), if_pos h9, hx])
    have hcv := conv_one w x (48 + n) hz 22 5 (0, 0) 1 Tryz.underlying22
    clear hx hz
    go_enter Tryz.func96, Tryz.ntmps96
    go_wp2
    go_ret
    exact ⟨by rw [HE.out]; rfl, (Below.refl _ _).alloc (Nat.le_refl _) _⟩
  · obtain ⟨x, hx⟩ : ∃ x, x = UInt8.ofNat (38 + n.toNat) := ⟨_, rfl⟩
    have hz : 48 + n - 10 = (x.toNat : Int) := by rw [hx, UInt8.toNat_ofNat']; omega
    have e2 : (48 + n - 10) % 256 = 48 + n - 10 := by omega
    have HE : Hid (domL n = [100, 49, x]) := hid (by unfold domL; rw [if_neg (by omega), if_neg h9, hx])
    have hcv := conv_one w x (48 + n - 10) hz 22 5 (0, 0) 1 Tryz.underlying22
    clear hx hz
    go_enter Tryz.func96, Tryz.ntmps96
    go_wp2
    go_ret
    exact ⟨by rw [HE.out]; rfl, (Below.refl _ _).alloc (Nat.le_refl _) _⟩

/-- The text of a role. -/
def textB (o n : ByteArray) : ByteArray := o ++ ⟨#[46]⟩ ++ n
theorem textB_list (o n : ByteArray) : (textB o n).data.toList = o.data.toList ++ 46 :: n.data.toList := by
  unfold textB
  simp [ByteArray.data_append]
theorem refRole_any (o n : ByteArray) (w : World) :
    Calls Tryz.prog 75 #[.agg #[.string o, .string n]] w fun e w' => e = .returned (.bool (roleL o.data.toList n.data.toList)) ∧ Below w.heap.size w w' := by
  have HM := hid (fun w => refMay_any n w)
  have HN := hid (fun w => refNnum_any o w)
  obtain ⟨m, hm⟩ : ∃ m, mayL n.data.toList = m := ⟨_, rfl⟩
  obtain ⟨k, hk⟩ : ∃ k, numL o.data.toList = k := ⟨_, rfl⟩
  rw [hm] at HM
  rw [hk] at HN
  have HR : Hid (roleL o.data.toList n.data.toList = (m && decide (k ≠ 0))) := hid (by unfold roleL; rw [hm, hk])
  clear hm hk
  go_enter Tryz.func75, Tryz.ntmps75
  go_wp2_with fail
  refine (HM.out _).mono ?_
  rintro er w2 ⟨rfl, rfl⟩
  cases m with
  | false =>
    go_wp2
    go_ret
    exact ⟨by rw [HR.out]; rfl, (Below.refl _ _).alloc (Nat.le_refl _) _⟩
  | true =>
    go_wp2_with fail
    refine (HN.out _).mono ?_
    rintro er w2 ⟨rfl, rfl⟩
    by_cases hk : k = 0
    · subst hk
      go_wp2
      go_ret
      exact ⟨by rw [HR.out]; rfl, (Below.refl _ _).alloc (Nat.le_refl _) _⟩
    · have hk' : ¬ (k : Int) = 0 := by omega
      have HK : Hid (decide (k ≠ 0) = true) := hid (by simp [hk])
      go_wp2
      go_ret
      exact ⟨by rw [HR.out, HK.out]; simp [hk], (Below.refl _ _).alloc (Nat.le_refl _) _⟩
end Go.Proofs.YtaadmgbmaekicaaGreatDoor.Sh
/-
  Credentials: what the document asks, in plain functions; the round trip, and the texts. Nothing of the program's own text.
-/
namespace Go.Proofs.YtaadmgbmaekicaaGreatDoor.Sh
open Go Go.RowKit

def E0 : ByteArray := ⟨#[]⟩
structure Crd where
  d : Int
  q : Int
  nm : ByteArray
  kd : Int
  wh : ByteArray
  ao : ByteArray
  an : ByteArray
  bo : ByteArray
  bn : ByteArray
/-- The nine cells of a credential. -/
def Crd.cells (c : Crd) : List Value := [.int .i64 c.d, .int .i64 c.q, .string c.nm, .int .i64 c.kd, .string c.wh, .string c.ao, .string c.an, .string c.bo, .string c.bn]
def Crd.zero : Crd := ⟨0, 0, E0, 0, E0, E0, E0, E0, E0⟩
def mayB (s : ByteArray) : Bool := mayL s.data.toList
def roleB (o n : ByteArray) : Bool := roleL o.data.toList n.data.toList
theorem e0_list : E0.data.toList = [] := rfl
theorem ba_eq {a b : ByteArray} (h : a.data.toList = b.data.toList) : a = b := by
  rw [← Lib.mk_data a, ← Lib.mk_data b, h]
theorem mk_toList (l : List UInt8) : (⟨l.toArray⟩ : ByteArray).data.toList = l := rfl
theorem mayB_e0 : mayB E0 = false := rfl
theorem roleB_e0 (n : ByteArray) : roleB E0 n = false := by unfold roleB roleL; simp [e0_list, numL]
/-- What its kind asks. -/
def kindOk (c : Crd) : Bool :=
  if c.kd = 1 then mayB c.wh && decide (c.ao = E0 ∧ c.an = E0) && decide (c.bo = E0 ∧ c.bn = E0)
  else decide (c.wh = E0) && (if c.kd = 2 then roleB c.ao c.an && decide (c.bo = E0 ∧ c.bn = E0)
    else if c.kd = 3 then (mayB c.an && decide (c.ao = E0)) && (mayB c.bn && decide (c.bo = E0))
    else if c.kd = 4 then roleB c.ao c.an && roleB c.bo c.bn else false)
def headOk (c : Crd) : Bool := decide (1 ≤ c.d ∧ c.d ≤ 16 ∧ 1 ≤ c.q ∧ c.q ≤ 4000) && mayB c.nm
def mayC (c : Crd) : Bool := headOk c && kindOk c
/-- The bytes of a role, of what hangs on the kind, of a credential. -/
def putR (o n : ByteArray) : List UInt8 := enc (numL o.data.toList) ++ encText n
def putBody (c : Crd) : List UInt8 :=
  if c.kd = 1 then encText c.wh else if c.kd = 2 then putR c.ao c.an else if c.kd = 3 then encText c.an ++ encText c.bn else if c.kd = 4 then putR c.ao c.an ++ putR c.bo c.bn else []
def putC (c : Crd) : List UInt8 := enc c.d.toNat ++ (enc c.q.toNat ++ (encText c.nm ++ (enc c.kd.toNat ++ putBody c)))
/-- Its text. -/
def domB (d : Int) : ByteArray := ⟨(domL d).toArray⟩
def arrow : ByteArray := ⟨#[32, 60, 45, 32]⟩
def amp : ByteArray := ⟨#[32, 38, 32]⟩
def dotB : ByteArray := ⟨#[46]⟩
def textBody (c : Crd) : List UInt8 :=
  if c.kd = 1 then c.wh.data.toList else if c.kd = 2 then (textB c.ao c.an).data.toList
  else if c.kd = 3 then domL c.d ++ 46 :: (c.an.data.toList ++ 46 :: c.bn.data.toList)
  else if c.kd = 4 then (textB c.ao c.an).data.toList ++ [32, 38, 32] ++ (textB c.bo c.bn).data.toList else []
def textHead (c : Crd) : List UInt8 := domL c.d ++ 46 :: (c.nm.data.toList ++ [32, 60, 45, 32])
def textC (c : Crd) : ByteArray := ⟨(textHead c ++ textBody c).toArray⟩

/-! ### a step of reading -/
def nameStep (l : List UInt8) (p : Nat) (e : Int) : List UInt8 × Nat × Int :=
  ((textStep l p e 8).1, (textStep l p e 8).2.1, if mayL (textStep l p e 8).1 = true then (textStep l p e 8).2.2 else if (textStep l p e 8).2.2 = 0 then 2 else (textStep l p e 8).2.2)
def roleStep (l : List UInt8) (p : Nat) (e : Int) : (List UInt8 × List UInt8) × Nat × Int :=
  ((domL (numStep l p e 1 16).1, (nameStep l (numStep l p e 1 16).2.1 (numStep l p e 1 16).2.2).1), (nameStep l (numStep l p e 1 16).2.1 (numStep l p e 1 16).2.2).2)
def bL (l : List UInt8) : ByteArray := ⟨l.toArray⟩
theorem bL_list (s : ByteArray) : bL s.data.toList = s := Lib.mk_data s
/-- What the kind's part says. -/
def bodyStep (d q : Int) (nm : ByteArray) (kd : Int) (l : List UInt8) (p : Nat) (e : Int) : Crd × Nat × Int :=
  if kd = 1 then (⟨d, q, nm, kd, bL (nameStep l p e).1, E0, E0, E0, E0⟩, (nameStep l p e).2)
  else if kd = 2 then (⟨d, q, nm, kd, E0, bL (roleStep l p e).1.1, bL (roleStep l p e).1.2, E0, E0⟩, (roleStep l p e).2)
  else if kd = 3 then (⟨d, q, nm, kd, E0, E0, bL (nameStep l p e).1, E0, bL (nameStep l (nameStep l p e).2.1 (nameStep l p e).2.2).1⟩, (nameStep l (nameStep l p e).2.1 (nameStep l p e).2.2).2)
  else if kd = 4 then (⟨d, q, nm, kd, E0, bL (roleStep l p e).1.1, bL (roleStep l p e).1.2, bL (roleStep l (roleStep l p e).2.1 (roleStep l p e).2.2).1.1, bL (roleStep l (roleStep l p e).2.1 (roleStep l p e).2.2).1.2⟩,
    (roleStep l (roleStep l p e).2.1 (roleStep l p e).2.2).2)
  else (⟨d, q, nm, kd, E0, E0, E0, E0, E0⟩, p, e)
def fin (x : Crd × Nat × Int) : Crd × Nat × Int := (if x.2.2 = 0 then x.1 else .zero, x.2)
def rawC (l : List UInt8) (p : Nat) (e : Int) : Crd × Nat × Int :=
  let x1 := numStep l p e 1 16
  let x2 := numStep l x1.2.1 x1.2.2 1 4000
  let x3 := nameStep l x2.2.1 x2.2.2
  let x4 := numStep l x3.2.1 x3.2.2 1 4
  bodyStep x1.1 x2.1 (bL x3.1) x4.1 l x4.2.1 x4.2.2
def readC (l : List UInt8) (p : Nat) (e : Int) : Crd × Nat × Int := fin (rawC l p e)

theorem putBody_1 {c : Crd} (h : c.kd = 1) : putBody c = encText c.wh := by unfold putBody; rw [if_pos h]
theorem putBody_2 {c : Crd} (h : c.kd = 2) : putBody c = putR c.ao c.an := by unfold putBody; rw [if_neg (by omega), if_pos h]
theorem putBody_3 {c : Crd} (h : c.kd = 3) : putBody c = encText c.an ++ encText c.bn := by unfold putBody; rw [if_neg (by omega), if_neg (by omega), if_pos h]
theorem putBody_4 {c : Crd} (h : c.kd = 4) : putBody c = putR c.ao c.an ++ putR c.bo c.bn := by unfold putBody; rw [if_neg (by omega), if_neg (by omega), if_neg (by omega), if_pos h]
section
variable (d q : Int) (nm : ByteArray) (l : List UInt8) (p : Nat) (e : Int)
theorem bodyStep_1 : bodyStep d q nm 1 l p e = (⟨d, q, nm, 1, bL (nameStep l p e).1, E0, E0, E0, E0⟩, (nameStep l p e).2) := rfl
theorem bodyStep_2 : bodyStep d q nm 2 l p e = (⟨d, q, nm, 2, E0, bL (roleStep l p e).1.1, bL (roleStep l p e).1.2, E0, E0⟩, (roleStep l p e).2) := rfl
theorem bodyStep_3 : bodyStep d q nm 3 l p e = (⟨d, q, nm, 3, E0, E0, bL (nameStep l p e).1, E0, bL (nameStep l (nameStep l p e).2.1 (nameStep l p e).2.2).1⟩, (nameStep l (nameStep l p e).2.1 (nameStep l p e).2.2).2) := rfl
theorem bodyStep_4 : bodyStep d q nm 4 l p e = (⟨d, q, nm, 4, E0, bL (roleStep l p e).1.1, bL (roleStep l p e).1.2, bL (roleStep l (roleStep l p e).2.1 (roleStep l p e).2.2).1.1, bL (roleStep l (roleStep l p e).2.1 (roleStep l p e).2.2).1.2⟩,
    (roleStep l (roleStep l p e).2.1 (roleStep l p e).2.2).2) := rfl
end

/-! ### forward -/
theorem num_at {l r : List UInt8} {p N : Nat} {lo hi : Int} (hN : N < 9223372036854775808) (hd : l.drop p = enc N ++ r) (h1 : lo ≤ (N : Int)) (h2 : (N : Int) ≤ hi) :
    numStep l p 0 lo hi = ((N : Int), p + (enc N).length, 0) ∧ l.drop (p + (enc N).length) = r := by
  constructor
  · unfold numStep
    rw [if_neg (by simp), hd, look_enc hN, if_neg (by simp), if_neg (by simp only; omega)]
  · rw [← List.drop_drop, hd]; simp
theorem text_at {l r : List UInt8} {p : Nat} {s : ByteArray} (hs : s.size ≤ 8) (hd : l.drop p = encText s ++ r) :
    textStep l p 0 8 = (s.data.toList, p + (encText s).length, 0) ∧ l.drop (p + (encText s).length) = r := by
  have hl := size_list s
  have hd2 : l.drop p = enc s.size ++ (s.data.toList ++ r) := by rw [hd, encText, List.append_assoc]
  have hlen : l.length = p + (encText s).length + r.length := by
    have := congrArg List.length hd
    rw [List.length_drop, List.length_append] at this
    have h0 : 0 < (encText s).length := by rw [encText_length, enc_length]; omega
    omega
  constructor
  · unfold textStep
    rw [if_neg (by simp), hd2, look_enc (by omega)]
    simp only
    rw [if_neg (by simp), if_neg (by omega), if_neg (by rw [hlen, encText_length]; omega)]
    have e1 : l.drop (p + (enc s.size).length) = s.data.toList ++ r := by rw [← List.drop_drop, hd2]; simp
    rw [e1]
    have e2 : (s.data.toList ++ r).take s.size = s.data.toList := by rw [← hl]; simp
    rw [e2, encText_length, Nat.add_assoc]
  · rw [← List.drop_drop, hd]; simp
theorem mayL_size {s : ByteArray} (h : mayL s.data.toList = true) : s.size ≤ 8 := by
  rw [← size_list]
  cases hl : s.data.toList with
  | nil => simp
  | cons x t =>
    rw [hl, mayL_cons] at h
    simp only [Bool.and_eq_true, decide_eq_true_eq] at h
    simp; omega
theorem name_at {l r : List UInt8} {p : Nat} {s : ByteArray} (hs : mayL s.data.toList = true) (hd : l.drop p = encText s ++ r) :
    nameStep l p 0 = (s.data.toList, p + (encText s).length, 0) ∧ l.drop (p + (encText s).length) = r := by
  obtain ⟨h1, h2⟩ := text_at (mayL_size hs) hd
  refine ⟨?_, h2⟩
  unfold nameStep
  rw [h1]
  simp only
  rw [if_pos hs]
theorem role_at {l r : List UInt8} {p : Nat} {o n : ByteArray} (h : roleL o.data.toList n.data.toList = true) (hd : l.drop p = putR o n ++ r) :
    roleStep l p 0 = ((o.data.toList, n.data.toList), p + (putR o n).length, 0) ∧ l.drop (p + (putR o n).length) = r := by
  unfold roleL at h
  simp only [Bool.and_eq_true, decide_eq_true_eq] at h
  obtain ⟨hm, hn⟩ := h
  obtain ⟨g1, g2, g3⟩ := domL_numL _ hn
  have hd2 : l.drop p = enc (numL o.data.toList) ++ (encText n ++ r) := by rw [hd, putR, List.append_assoc]
  obtain ⟨a1, a2⟩ := num_at (lo := 1) (hi := 16) (by omega) hd2 (by omega) (by omega)
  obtain ⟨b1, b2⟩ := name_at hm a2
  have hlen : p + (putR o n).length = p + (enc (numL o.data.toList)).length + (encText n).length := by rw [putR, List.length_append]; omega
  constructor
  · unfold roleStep
    rw [a1]
    simp only
    rw [b1, g1, hlen]
  · rw [hlen]; exact b2
theorem may_head {c : Crd} (h : mayC c = true) : 1 ≤ c.d ∧ c.d ≤ 16 ∧ 1 ≤ c.q ∧ c.q ≤ 4000 ∧ mayL c.nm.data.toList = true := by
  unfold mayC headOk mayB at h
  simp only [Bool.and_eq_true, decide_eq_true_eq] at h
  exact ⟨h.1.1.1, h.1.1.2.1, h.1.1.2.2.1, h.1.1.2.2.2, h.1.2⟩
theorem may_kind {c : Crd} (h : mayC c = true) : (c.kd = 1 ∧ mayL c.wh.data.toList = true ∧ c.ao = E0 ∧ c.an = E0 ∧ c.bo = E0 ∧ c.bn = E0) ∨
    (c.kd = 2 ∧ c.wh = E0 ∧ roleL c.ao.data.toList c.an.data.toList = true ∧ c.bo = E0 ∧ c.bn = E0) ∨
    (c.kd = 3 ∧ c.wh = E0 ∧ c.ao = E0 ∧ mayL c.an.data.toList = true ∧ c.bo = E0 ∧ mayL c.bn.data.toList = true) ∨
    (c.kd = 4 ∧ c.wh = E0 ∧ roleL c.ao.data.toList c.an.data.toList = true ∧ roleL c.bo.data.toList c.bn.data.toList = true) := by
  unfold mayC at h
  rw [Bool.and_eq_true] at h
  have h := h.2
  unfold kindOk mayB roleB at h
  split at h
  · simp only [Bool.and_eq_true, decide_eq_true_eq] at h
    rename_i hk
    exact .inl ⟨hk, h.1.1, h.1.2.1, h.1.2.2, h.2.1, h.2.2⟩
  · rw [Bool.and_eq_true, decide_eq_true_eq] at h
    obtain ⟨hw, h⟩ := h
    split at h
    · simp only [Bool.and_eq_true, decide_eq_true_eq] at h
      rename_i hk
      exact .inr (.inl ⟨hk, hw, h.1, h.2.1, h.2.2⟩)
    · split at h
      · simp only [Bool.and_eq_true, decide_eq_true_eq] at h
        rename_i hk
        exact .inr (.inr (.inl ⟨hk, hw, h.1.2, h.1.1, h.2.2, h.2.1⟩))
      · split at h
        · simp only [Bool.and_eq_true] at h
          rename_i hk
          exact .inr (.inr (.inr ⟨hk, hw, h.1, h.2⟩))
        · cases h
/-- What was put is read. -/
theorem readC_put {c : Crd} (h : mayC c = true) (r : List UInt8) : readC (putC c ++ r) 0 0 = (c, (putC c).length, 0) := by
  obtain ⟨h1, h2, h3, h4, h5⟩ := may_head h
  have hd0 : (putC c ++ r).drop 0 = enc c.d.toNat ++ (enc c.q.toNat ++ (encText c.nm ++ (enc c.kd.toNat ++ (putBody c ++ r)))) := by simp [putC]
  generalize hL : putC c ++ r = L at hd0 ⊢
  have i1 : (c.d.toNat : Int) = c.d := by omega
  have i2 : (c.q.toNat : Int) = c.q := by omega
  obtain ⟨a1, d1⟩ := num_at (lo := 1) (hi := 16) (by omega) hd0 (by omega) (by omega)
  obtain ⟨a2, d2⟩ := num_at (lo := 1) (hi := 4000) (by omega) d1 (by omega) (by omega)
  obtain ⟨a3, d3⟩ := name_at h5 d2
  have hk : 1 ≤ c.kd ∧ c.kd ≤ 4 := by rcases may_kind h with k | k | k | k <;> omega
  obtain ⟨a4, d4⟩ := num_at (lo := 1) (hi := 4) (by omega) d3 (by omega) (by omega)
  have i4 : (c.kd.toNat : Int) = c.kd := by omega
  have hlen : (putC c).length = 0 + (enc c.d.toNat).length + (enc c.q.toNat).length + (encText c.nm).length + (enc c.kd.toNat).length + (putBody c).length := by simp [putC]; omega
  rw [i1] at a1
  rw [i2] at a2
  rw [i4] at a4
  have e0 : rawC L 0 0 = (c, (putC c).length, 0) := by
    unfold rawC
    simp only [a1, a2, a3, a4]
    rw [bL_list, hlen]
    generalize hP : 0 + (enc c.d.toNat).length + (enc c.q.toNat).length + (encText c.nm).length + (enc c.kd.toNat).length = P at d4 ⊢
    clear a1 a2 a3 a4 d1 d2 d3 hlen hL hP hd0
    have hmk := may_kind h
    clear h h1 h2 h3 h4 h5 i1 i2 i4 hk
    obtain ⟨d, q, nm, kd, wh, ao, an, bo, bn⟩ := c
    simp only at hmk
    rcases hmk with ⟨rfl, k1, rfl, rfl, rfl, rfl⟩ | ⟨rfl, rfl, k1, rfl, rfl⟩ | ⟨rfl, rfl, rfl, k1, rfl, k2⟩ | ⟨rfl, rfl, k1, k2⟩
    · rw [putBody_1 rfl] at d4 ⊢
      obtain ⟨b1, _⟩ := name_at k1 d4
      rw [bodyStep_1, b1]
      simp only [bL_list]
    · rw [putBody_2 rfl] at d4 ⊢
      obtain ⟨b1, _⟩ := role_at k1 d4
      rw [bodyStep_2, b1]
      simp only [bL_list]
    · rw [putBody_3 rfl] at d4 ⊢
      rw [List.append_assoc] at d4
      obtain ⟨b1, d5⟩ := name_at k1 d4
      obtain ⟨b2, _⟩ := name_at k2 d5
      rw [bodyStep_3, b1]
      simp only
      rw [b2]
      simp only [bL_list, List.length_append]
      rw [Nat.add_assoc]
    · rw [putBody_4 rfl] at d4 ⊢
      rw [List.append_assoc] at d4
      obtain ⟨b1, d5⟩ := role_at k1 d4
      obtain ⟨b2, _⟩ := role_at k2 d5
      rw [bodyStep_4, b1]
      simp only
      rw [b2]
      simp only [bL_list, List.length_append]
      rw [Nat.add_assoc]
  unfold readC fin
  rw [e0]
  simp
end Go.Proofs.YtaadmgbmaekicaaGreatDoor.Sh
