/-
  The statements' own told and same, by contract.
-/
import Derived.Test.YtghejdlijcmbbaaGreatDoorJo13
import Derived.Test.YtghejdlijcmbbaaGreatDoorJo17
import Derived.Test.YtghejdlijcmbbaaGreatDoorJo43
set_option linter.unusedVariables false
set_option linter.unusedSimpArgs false
namespace Go.Proofs.YtghejdlijcmbbaaGreatDoor.Sh
open Go Go.RowKit

set_option linter.unusedSimpArgs false
set_option linter.unusedVariables false
theorem slQ : SlN Tryz.prog 25 36 3 48 := by
  obtain ⟨i0, hi0, hz0, hz1, hz2⟩ := info_parts (P := Tryz.prog) (e := 36) (z := .agg #[.string E0, .string E0, .string E0]) (size := 3) (bytes := 48) (by kernel_rfl)
  exact ⟨Tryz.underlying25, ⟨i0, _, hi0, hz0, hz1, hz2, rfl⟩, by omega⟩
theorem Own.below {α : Type} {E : Enc α} {w w' : World} {B : Nat} {T : TypeId} {v : Value} {l : List α} (h : Own (E := E) w B T v l) (hb : Below w.heap.size w w') : Own (E := E) w' B T v l :=
  h.kept fun g e => hb.block g (h.lt g e).2
set_option maxHeartbeats 8000000 in
theorem told_any (A : Option Addr) (l : List Pr) (n c : Nat) (hn : l.length = n) (hm : n ≤ 1000000000) (w : World) (h : Els encP w w.heap.size A l) :
    Calls Tryz.prog 10 #[.slice A n c] w fun e w' => ∃ A' c', e = .returned (.slice A' l.length c') ∧ Own (E := encP) w' w.heap.size 36 (.slice A' l.length c') l ∧ Below w.heap.size w w' := by
  have HN := hid hn
  have HH := hid h
  have HM : Hid (n ≤ 1000000000) := hid hm
  have hn63 : n ≤ 9223372036854775807 := by omega
  clear hn h hm
  go_enter Tryz.func10, Tryz.ntmps10
  go_wp2_with fail
  go_loopw [3, 4] (fun v i wr => ∃ (A' : Option Addr) (c' k : Nat) (out : List Pr), v = .slice A' out.length c' ∧ i = .int .i64 (k : Int) ∧ k ≤ n ∧ Hid (out = l.take k) ∧ Hid (Own (E := encP) wr w.heap.size 36 (.slice A' out.length c') out) ∧ Hid (Below w.heap.size w wr)) (fun _ i _ => n - (intOf i).toNat)
  case atStart => exact ⟨none, 0, 0, [], rfl, rfl, Nat.zero_le _, hid rfl, hid (Own.nil _ _ _), hid (Below.refl _ _)⟩
  case round =>
    obtain ⟨A', c', k, out, rfl, rfl, hk, HOU, HOW, HB⟩ := hrel
    by_cases hlt : k < n
    · obtain ⟨⟨⟨o, nm⟩, who⟩, hx⟩ : ∃ x, l[k]? = some x := ⟨_, List.getElem?_eq_getElem (by rw [HN.out]; exact hlt)⟩
      have hel := HH.out.below HB.out
      obtain ⟨ad, aj, rfl, hab, ea, hbj, a0, ai⟩ := hel.get hx
      have a0 := a0 _ rfl
      have a1 := ai 1 _ (by omega) rfl
      have a2 := ai 2 _ (by omega) rfl
      have ea : ad.add (k * 3) = aj := ea
      have hk0 : (0 : Int) ≤ (k : Int) := Int.natCast_nonneg _
      have hk1 : (k : Int) < (n : Int) := by omega
      have HX := hid hx
      have hol : out.length = k := by rw [HOU.out, List.length_take, HN.out]; omega
      have hlen : out.length ≤ 1000000000000 := by have := HM.out; omega
      have hbs : w.heap.size ≤ wr.heap.size := HB.out.size
      have HO2 := hid (HOW.out.alloc (.cells #[.string o, .string nm, .string who] 36)).drew
      have HRD := hid (reads_newd wr #[.string o, .string nm, .string who] 36 (0, 0))
      have HJB : Hid (aj.block < w.heap.size) := hid (by rw [hbj]; exact hab)
      have HS0 := hid (fun (W : World) (hW : Below w.heap.size wr W) => (⟨(hW.cell (p := aj) HJB.out).trans a0, (hW.cell (p := ⟨aj.block, aj.off + 1, none⟩) HJB.out).trans a1, (hW.cell (p := ⟨aj.block, aj.off + 2, none⟩) HJB.out).trans a2⟩ : W.cell? aj = some (.string o) ∧ W.cell? ⟨aj.block, aj.off + 1, none⟩ = some (.string nm) ∧ W.cell? ⟨aj.block, aj.off + 2, none⟩ = some (.string who)))
      have bD := hid ((Below.refl w.heap.size wr).drew)
      have bA := hid (((Below.refl w.heap.size wr).alloc hbs (.cells #[.string o, .string nm, .string who] 36)).drew)
      have HBA := hid ((HB.out.alloc hbs (.cells #[.string o, .string nm, .string who] 36)).drew)
      clear hx hel hab hbj hol ai
      go_wp2_with fail
      go_region_held3 (fun w' => w'.cell? aj = some (.string o) ∧ w'.cell? ⟨aj.block, aj.off + 1, none⟩ = some (.string nm) ∧ w'.cell? ⟨aj.block, aj.off + 2, none⟩ = some (.string who))
        (first | exact HS0.out _ bD.out | exact HS0.out _ bA.out | exact HS0.out _ b5.out)
        ((first | (refine step_app1 (E := encP) (by rfl) slQ (.tmp 11) (.tmp 23) (by rfl) (B := w.heap.size) (v := .slice A' out.length c') (l := out) HO2.out (by rfl) (ad := ⟨wr.heap.size, 0, none⟩) (c := 1) ((o, nm), who) (by rfl) HRD.out hlen (by omega) (by simp; omega) ?_; intro A7 c7 w7 ho7 hg7 hl7; have B7 := hid (HBA.out.grown hg7 (by simp; omega) (fun g e => (World.ownsRow.lt HO2.out g e).1)); have b5 := hid (bA.out.grown hg7 (by simp; omega) (fun g e => (World.ownsRow.lt HO2.out g e).1)))))
      all_goals
        go_wp2_with fail
        go_roundw
        case rel => exact ⟨A7, c7, k + 1, out ++ [((o, nm), who)], by simp, by go_num, by omega, hid (by rw [HOU.out, take_snoc_of HX.out]), hid (by rw [List.length_append, List.length_singleton]; exact ho7), B7⟩
        case measure => simp [intOf]; omega
    · obtain rfl : n = k := by omega
      have e1 : out = l := by rw [HOU.out]; exact List.take_of_length_le (by rw [HN.out]; exact Nat.le_refl _)
      subst e1
      go_wp2
      go_ret
      exact ⟨A', c', rfl, HOW.out, HB.out⟩
set_option maxHeartbeats 4000000 in
theorem same_eq (A B : Option Addr) (l : List Pr) (n c d : Nat) (hn : l.length = n) (hm : n ≤ 1000000000) (w : World) (h : Els encP w w.heap.size A l) (h' : Els encP w w.heap.size B l) :
    Calls Tryz.prog 9 #[.slice A n c, .slice B n d] w fun e w' => e = .returned (.bool true) ∧ ∃ k, w' = w.drewN k := by
  have HN := hid hn
  clear hn
  go_enter Tryz.func9, Tryz.ntmps9
  go_wp2
  go_loopw [5] (fun i wr => ∃ k : Nat, k ≤ n ∧ i = .int .i64 k ∧ Hid (∃ q, wr = w.drewN q)) (fun i _ => n - (intOf i).toNat)
  case atStart => exact ⟨0, Nat.zero_le _, rfl, hid ⟨0, rfl⟩⟩
  case round =>
    obtain ⟨k, hk, rfl, hw⟩ := hrel
    have hwr : Below w.heap.size w wr := by obtain ⟨q, rfl⟩ := hw.out; exact below_drewN (Below.refl _ _) q
    by_cases hlt : k < n
    · obtain ⟨⟨⟨o, nm⟩, who⟩, hx⟩ : ∃ x, l[k]? = some x := ⟨_, List.getElem?_eq_getElem (by rw [HN.out]; exact hlt)⟩
      obtain ⟨ad, aj, rfl, -, ea, -, a0, ai⟩ := (h.below hwr).get hx
      have a0 := a0 _ rfl
      have a1 := ai 1 _ (by omega) rfl
      have a2 := ai 2 _ (by omega) rfl
      have ea : ad.add (k * 3) = aj := ea
      obtain ⟨bd, bj, rfl, -, eb, -, b0, bi⟩ := (h'.below hwr).get hx
      have b0 := b0 _ rfl
      have b1 := bi 1 _ (by omega) rfl
      have b2 := bi 2 _ (by omega) rfl
      have eb : bd.add (k * 3) = bj := eb
      have hk0 : (0 : Int) ≤ (k : Int) := Int.natCast_nonneg _
      have hk1 : (k : Int) < (n : Int) := by omega
      clear hx h h' hwr ai bi
      go_wp2_with fail
      go_quiet (fail)
      go_wp2
      go_roundw
      case rel => exact ⟨k + 1, by omega, by go_num, by
        obtain ⟨q, rfl⟩ := hw.out
        exact hid ⟨q + nq, World.drewN_drewN _ _ _⟩⟩
      case measure => simp [intOf]; omega
    · obtain rfl : k = n := by omega
      go_wp2
      go_ret
      exact ⟨rfl, hw.out⟩
end Go.Proofs.YtghejdlijcmbbaaGreatDoor.Sh
/-
  The statements' own lives and few.
-/
namespace Go.Proofs.YtghejdlijcmbbaaGreatDoor.Sh
open Go Go.RowKit

set_option linter.unusedSimpArgs false
set_option linter.unusedVariables false
theorem own_els {α : Type} {E : Enc α} {w : World} {B n c : Nat} {T : TypeId} {A : Option Addr} {l : List α} (h : Own (E := E) w B T (.slice A n c) l) : Els E w w.heap.size A l := by
  obtain ⟨A', c', e, -, -, h'⟩ := h.els
  simp only [Value.slice.injEq] at e
  rw [e.1]
  exact h'
def cA : Crd := ⟨1, 1, ⟨#[97]⟩, 3, ⟨#[]⟩, ⟨#[]⟩, ⟨#[98]⟩, ⟨#[]⟩, ⟨#[99]⟩⟩
def cB : Crd := ⟨1, 2, ⟨#[98]⟩, 1, ⟨#[100, 50]⟩, ⟨#[]⟩, ⟨#[]⟩, ⟨#[]⟩, ⟨#[]⟩⟩
def cC : Crd := ⟨2, 1, ⟨#[99]⟩, 1, ⟨#[98, 111, 98]⟩, ⟨#[]⟩, ⟨#[]⟩, ⟨#[]⟩, ⟨#[]⟩⟩
def three : List Crd := [cA, cB, cC]
theorem mayA : mayC cA = true := by decide
theorem mayBb : mayC cB = true := by decide
theorem mayCc : mayC cC = true := by decide
theorem three_mem {out : List Crd} (h : CountsOf out three) (c : Crd) : c ∈ out ↔ c ∈ three := by
  have key : ∀ x ∈ three, x ∈ out := by
    intro x hx
    have h1 : (three.filter fun c => idIs x.d x.q c && mayC c).take 1 = [x] := by
      simp only [three, List.mem_cons, List.not_mem_nil, or_false] at hx
      rcases hx with rfl | rfl | rfl <;> rfl
    have h2 := h.2 x.d x.q
    rw [h1] at h2
    exact (List.mem_filter.1 (by rw [h2]; simp : x ∈ out.filter (idIs x.d x.q))).1
  exact ⟨fun hc => (counts_mem h hc).2, key c⟩
def pA : Pr := ((⟨#[100, 49]⟩, ⟨#[97]⟩), ⟨#[98, 111, 98]⟩)
def pB : Pr := ((⟨#[100, 49]⟩, ⟨#[98]⟩), ⟨#[100, 50]⟩)
def pC : Pr := ((⟨#[100, 50]⟩, ⟨#[99]⟩), ⟨#[98, 111, 98]⟩)
theorem roleA : roleOf cA = pA.1 := rfl
theorem roleB' : roleOf cB = pB.1 := rfl
theorem roleC' : roleOf cC = pC.1 := rfl
theorem three_imp {out : List Crd} (h : CountsOf out three) (p : Pr) : Imp (· ∈ out) p ↔ p = pA ∨ p = pB ∨ p = pC := by
  have hm := three_mem h
  have mA : cA ∈ out := (hm cA).2 (by simp [three])
  have mB : cB ∈ out := (hm cB).2 (by simp [three])
  have mC : cC ∈ out := (hm cC).2 (by simp [three])
  have hB : Imp (· ∈ out) pB := Imp.mem (c := cB) mB rfl
  have hC : Imp (· ∈ out) pC := Imp.mem (c := cC) mC rfl
  constructor
  · intro hi
    induction hi with
    | mem hc h1 =>
      have := (hm _).1 hc
      simp only [three, List.mem_cons, List.not_mem_nil, or_false] at this
      rcases this with rfl | rfl | rfl
      · exact absurd h1 (by decide)
      · exact .inr (.inl rfl)
      · exact .inr (.inr rfl)
    | inc hc h2 _ _ =>
      have := (hm _).1 hc
      simp only [three, List.mem_cons, List.not_mem_nil, or_false] at this
      rcases this with rfl | rfl | rfl <;> exact absurd h2 (by decide)
    | lnk hc h3 _ hy _ ih1 ih2 =>
      have := (hm _).1 hc
      simp only [three, List.mem_cons, List.not_mem_nil, or_false] at this
      rcases this with rfl | rfl | rfl
      · rename_i x y _ _
        have e1 : y = ⟨#[100, 50]⟩ := by
          rcases ih1 with e | e | e
          · have := (Prod.mk.inj e).1; exact absurd this (by decide)
          · exact (Prod.mk.inj e).2
          · have := (Prod.mk.inj e).1; exact absurd this (by decide)
        subst e1
        have e2 : x = ⟨#[98, 111, 98]⟩ := by
          rcases ih2 with e | e | e
          · have := (Prod.mk.inj e).1; exact absurd this (by decide)
          · have := (Prod.mk.inj e).1; exact absurd this (by decide)
          · exact (Prod.mk.inj e).2
        subst e2
        exact .inl rfl
      · exact absurd h3 (by decide)
      · exact absurd h3 (by decide)
    | bth hc h4 _ _ _ _ =>
      have := (hm _).1 hc
      simp only [three, List.mem_cons, List.not_mem_nil, or_false] at this
      rcases this with rfl | rfl | rfl <;> exact absurd h4 (by decide)
  · rintro (rfl | rfl | rfl)
    · exact Imp.lnk (c := cA) (y := ⟨#[100, 50]⟩) mA rfl hB (by unfold isD; decide) hC
    · exact hB
    · exact hC
theorem three_len {out : List Crd} (h : CountsOf out three) {l : List Pr} (hs : SortedP l) (hm : ∀ p, p ∈ l ↔ Imp (· ∈ out) p) : l.length = 3 := by
  have hn := hs.nodup
  have h1 : l.length ≤ [pA, pB, pC].length := nodup_length hn fun p hp => by
    have := (three_imp h p).1 ((hm p).1 hp)
    simpa using this
  have h2 : [pA, pB, pC].length ≤ l.length := nodup_length (by decide) fun p hp => by
    rw [hm, three_imp h]
    simpa using hp
  exact Nat.le_antisymm h1 h2
theorem three_mbr {out : List Crd} (h : CountsOf out three) {l : List ByteArray} (hs : SortedB l) (hm : ∀ x, x ∈ l ↔ Imp (· ∈ out) (((⟨#[100, 49]⟩, ⟨#[97]⟩) : Rl), x)) : l = [⟨#[98, 111, 98]⟩] := by
  have hx : ∀ x, x ∈ l ↔ x = ⟨#[98, 111, 98]⟩ := fun x => by
    rw [hm, three_imp h]
    constructor
    · rintro (e | e | e)
      · exact (Prod.mk.inj e).2
      · have := (Prod.mk.inj e).1; exact absurd this (by decide)
      · have := (Prod.mk.inj e).1; exact absurd this (by decide)
    · rintro rfl; exact .inl rfl
  cases l with
  | nil => exact absurd ((hx _).2 rfl) (by simp)
  | cons a t =>
    have ha := (hx a).1 (by simp)
    cases t with
    | nil => rw [ha]
    | cons b t =>
      have hb := (hx b).1 (by simp)
      have := (List.pairwise_cons.1 hs).1 b (by simp)
      rw [ha, hb] at this
      exact absurd this (by decide)
theorem small_ok (l : List UInt8) (h : l.length ≤ 100) : okB ⟨l.toArray⟩ := by
  unfold okB
  rw [← size_list]
  show l.length ≤ _
  unfold maxLen
  omega
set_option maxHeartbeats 1000000 in
set_option maxRecDepth 100000 in
theorem lives_any (w : World) : Calls Tryz.prog 13 #[] w fun e w' => e = .returned (.bool true) ∧ Below w.heap.size w w' := by
  obtain ⟨w1, hw1⟩ : ∃ w1, w1 = w.alloc (.cells (cv three).toArray 45) := ⟨_, rfl⟩
  have q1 : Below w.heap.size w w1 := by rw [hw1]; exact (Below.refl _ _).alloc (Nat.le_refl _) _
  have hz1 : w1.heap.size = w.heap.size + 1 := by rw [hw1]; simp
  have r1 : Crs w1 w1.heap.size (some ⟨w.heap.size, 0, none⟩) three := fun _ => by
    obtain ⟨ad, e, hc⟩ := reads_new w (cv three).toArray 45 (0, 0) (by simp [cv_length, three])
    injection e with e
    subst e
    exact ⟨_, rfl, by rw [hz1]; exact Nat.lt_succ_self _, by rw [hw1]; exact hc⟩
  have HC := hid (fun W (hW : Below w1.heap.size w1 W) => (r1.below hW).more hW.size)
  have HQ1 := hid q1
  have hw2 : w.alloc (.cells #[.int .i64 1, .int .i64 1, .string ⟨#[97]⟩, .int .i64 3, .string ⟨#[]⟩, .string ⟨#[]⟩, .string ⟨#[98]⟩, .string ⟨#[]⟩, .string ⟨#[99]⟩, .int .i64 1, .int .i64 2, .string ⟨#[98]⟩, .int .i64 1, .string ⟨#[100, 50]⟩, .string ⟨#[]⟩, .string ⟨#[]⟩, .string ⟨#[]⟩, .string ⟨#[]⟩, .int .i64 2, .int .i64 1, .string ⟨#[99]⟩, .int .i64 1, .string ⟨#[98, 111, 98]⟩, .string ⟨#[]⟩, .string ⟨#[]⟩, .string ⟨#[]⟩, .string ⟨#[]⟩] 45) = w1 := by rw [hw1]; rfl
  have HMB := hid (fun W (hW : Below w1.heap.size w1 W) => members_any (some ⟨w.heap.size, 0, none⟩) three 3 3 rfl (Nat.le_refl _) (by omega) (by omega) ⟨#[100, 49]⟩ ⟨#[97]⟩ (small_ok [100, 49] (by simp)) (small_ok [97] (by simp)) W (HC.out W hW))
  have HHB : Hid (∀ W, Below w1.heap.size w1 W → Calls Tryz.prog 16 #[.slice (some ⟨w.heap.size, 0, none⟩) 3 3, .string ⟨#[98, 111, 98]⟩, .agg #[.string ⟨#[100, 50]⟩, .string ⟨#[99]⟩]] W fun e w' => e = .returned (.bool true) ∧ Below W.heap.size W w') := hid (fun W (hW : Below w1.heap.size w1 W) => (has_any (some ⟨w.heap.size, 0, none⟩) three 3 3 rfl (Nat.le_refl _) (by omega) (by omega) ⟨#[100, 50]⟩ ⟨#[99]⟩ ⟨#[98, 111, 98]⟩ (small_ok [100, 50] (by simp)) (small_ok [99] (by simp)) (small_ok [98, 111, 98] (by simp)) W (HC.out W hW)).mono
    (fun e w' ⟨out, b, h1, h2, h3, h4⟩ => ⟨by rw [h2, h3.2 ((three_imp h1 _).2 (.inr (.inr rfl)))], h4⟩))
  have HHA : Hid (∀ W, Below w1.heap.size w1 W → Calls Tryz.prog 16 #[.slice (some ⟨w.heap.size, 0, none⟩) 3 3, .string ⟨#[97, 110, 110]⟩, .agg #[.string ⟨#[100, 50]⟩, .string ⟨#[99]⟩]] W fun e w' => e = .returned (.bool false) ∧ Below W.heap.size W w') := hid (fun W (hW : Below w1.heap.size w1 W) => (has_any (some ⟨w.heap.size, 0, none⟩) three 3 3 rfl (Nat.le_refl _) (by omega) (by omega) ⟨#[100, 50]⟩ ⟨#[99]⟩ ⟨#[97, 110, 110]⟩ (small_ok [100, 50] (by simp)) (small_ok [99] (by simp)) (small_ok [97, 110, 110] (by simp)) W (HC.out W hW)).mono
    (fun e w' ⟨out, b, h1, h2, h3, h4⟩ => ⟨by
      have : b = false := by
        cases b with
        | false => rfl
        | true =>
          rcases (three_imp h1 _).1 (h3.1 rfl) with e | e | e
          · have := (Prod.mk.inj e).1; exact absurd this (by decide)
          · have := (Prod.mk.inj e).1; exact absurd this (by decide)
          · have := (Prod.mk.inj e).2; exact absurd this (by decide)
      rw [h2, this], h4⟩))
  have HAL : Hid (∀ W, Below w1.heap.size w1 W → Calls Tryz.prog 11 #[.slice (some ⟨w.heap.size, 0, none⟩) 3 3] W fun e w' => ∃ A' c', e = .returned (.slice A' 3 c') ∧ Below W.heap.size W w') := hid (fun W (hW : Below w1.heap.size w1 W) => (all_any (some ⟨w.heap.size, 0, none⟩) three 3 3 rfl (Nat.le_refl _) (by omega) (by omega) W (HC.out W hW)).mono
    (fun e w' ⟨out, A', c', lst, h1, h2, h3, h4, _, h5⟩ => ⟨A', c', by rw [h2, three_len h1 h3 h4], h5⟩))
  have tok1 : True := trivial
  clear q1 r1 hw1
  go_enter Tryz.func13, Tryz.ntmps13
  go_wp2_with (first
    | (go_at_call 15; (try rw [hw2]); (refine (HMB.out _ (Below.refl _ _)).mono ?_); rintro er w3 ⟨out, A', c', lst, h1, rfl, h3, h4, h5, h6⟩; have e3 := three_mbr h1 h3 h4; subst e3; (obtain ⟨ad, aj, rfl, -, ea, -, a0, -⟩ := (own_els h5).get (j := 0) rfl); have a0 := a0 _ rfl; have ea : ad = aj := (by rw [← ea]; exact (add_zero ad).symm); subst ea; have B3 := hid h6; clear h1 h3 h4 h5 h6)
    | (go_at_call 16; have _t := tok1; (refine (HHB.out _ B3.out).mono ?_); rintro er w4 ⟨rfl, h4⟩; clear tok1; have B4 := hid (B3.out.trans (h4.mono B3.out.size)); clear h4)
    | (go_at_call 16; (refine (HHA.out _ B4.out).mono ?_); rintro er w5 ⟨rfl, h5⟩; have B5 := hid (B4.out.trans (h5.mono B4.out.size)); clear h5)
    | (go_at_call 11; (refine (HAL.out _ B5.out).mono ?_); rintro er w6 ⟨A6, c6, rfl, h6⟩; have B6 := hid (B5.out.trans (h6.mono B5.out.size)); clear h6))
  go_ret
  exact ⟨rfl, HQ1.out.trans (B6.out.mono HQ1.out.size)⟩
end Go.Proofs.YtghejdlijcmbbaaGreatDoor.Sh
