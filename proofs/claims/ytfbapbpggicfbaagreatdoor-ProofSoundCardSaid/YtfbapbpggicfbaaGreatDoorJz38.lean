/-
  The program's link, by contract.
-/
import Derived.Test.YtfbapbpggicfbaaGreatDoorJz34
import Derived.Test.YtfbapbpggicfbaaGreatDoorJz33
set_option linter.unusedVariables false
set_option linter.unusedSimpArgs false
namespace Go.Proofs.YtfbapbpggicfbaaGreatDoor.Sh
open Go Go.RowKit
open Go.Maps (Keyed)

set_option linter.unusedSimpArgs false
set_option linter.unusedVariables false
/-- What link may turn. -/
def Ml (i : Nat) : Prop := Ma i ∨ Mg 2 i
theorem linkD_no {r g : Rl} {s : St} {m : Nat} (h : (r, domB ((m : Int) + 1)) ∉ s.kn) : St.linkD r g s m = s := if_neg h
theorem linkD_yes {r g : Rl} {s : St} {m : Nat} (h : (r, domB ((m : Int) + 1)) ∈ s.kn) : St.linkD r g s m = s.add (g, domB ((m : Int) + 1)) := if_pos h
theorem linkO_eq {o n who nm go gn : ByteArray} {s : St} : St.linkO ((o, n), who) s (nm, (go, gn)) = (List.range 16).foldl (St.linkD (who, nm) (go, gn)) (s.addInc (who, nm) (go, gn)) := rfl
theorem linkD_len (r g : Rl) : ∀ (l : List Nat) (s : St), (l.foldl (St.linkD r g) s).kn.length ≤ s.kn.length + l.length ∧ (l.foldl (St.linkD r g) s).fr.length ≤ s.fr.length + l.length ∧ (l.foldl (St.linkD r g) s).ic = s.ic
  | [], s => ⟨Nat.le_refl _, Nat.le_refl _, rfl⟩
  | m :: l, s => by
    have := linkD_len r g l (St.linkD r g s m)
    have h2 : (St.linkD r g s m).kn.length ≤ s.kn.length + 1 ∧ (St.linkD r g s m).fr.length ≤ s.fr.length + 1 ∧ (St.linkD r g s m).ic = s.ic := by
      unfold St.linkD
      split
      · refine ⟨?_, ?_, add_ic _ _⟩ <;> (unfold St.add; split <;> simp)
      · exact ⟨Nat.le_succ _, Nat.le_succ _, rfl⟩
    simp only [List.foldl_cons, List.length_cons]
    omega
theorem links_len (q : Pr) : ∀ (l : List (ByteArray × Rl)) (s : St), (l.foldl (St.linkO q) s).kn.length ≤ s.kn.length + 16 * l.length ∧ (l.foldl (St.linkO q) s).fr.length ≤ s.fr.length + 16 * l.length ∧ (l.foldl (St.linkO q) s).ic = s.ic + l.length
  | [], s => ⟨Nat.le_refl _, Nat.le_refl _, rfl⟩
  | k :: l, s => by
    have := links_len q l (St.linkO q s k)
    have h2 := linkD_len (q.2, k.1) k.2 (List.range 16) (s.addInc (q.2, k.1) k.2)
    have e : St.linkO q s k = (List.range 16).foldl (St.linkD (q.2, k.1) k.2) (s.addInc (q.2, k.1) k.2) := rfl
    rw [← e, List.length_range] at h2
    have e1 : (s.addInc (q.2, k.1) k.2).kn = s.kn := rfl
    have e2 : (s.addInc (q.2, k.1) k.2).fr = s.fr := rfl
    have e3 : (s.addInc (q.2, k.1) k.2).ic = s.ic + 1 := rfl
    rw [e1, e2, e3] at h2
    rw [List.foldl_cons, List.length_cons]
    omega
set_option maxHeartbeats 16000000 in
theorem link_any {B sb b0 b1 b2 b3 b4 : Nat} {vF : Value} {col : Col} {s : St} {w : World} (h : Sol w B sb b0 b1 b2 b3 b4 vF col s) (p : Pr) (hp : okP p) (hn : s.kn.length + 16 * s.ic ≤ 90000000000) (hf : s.fr.length + 16 * s.ic ≤ 90000000000) :
    Calls Tryz.prog 42 #[.pointer (some ⟨sb, 0, none⟩), .agg #[.string p.1.1, .string p.1.2, .string p.2]] w fun e w' => e = .returned (.tuple #[]) ∧ ∃ vF' col', Sol w' B sb b0 b1 b2 b3 b4 vF' col' (s.link p) ∧ Ext Ml w w' col col' := by
  obtain ⟨⟨o, n⟩, who⟩ := p
  obtain ⟨v, hlook, hown, hlen, hvc⟩ := h.lnk.look lawR Tryz.underlying78 so_z85 hp.1 (keyR hp.1)
  unfold rV at hlook
  simp only at hlook
  obtain ⟨A, c, rfl, hNc, hc63, hels⟩ := hown.els
  obtain ⟨l, hl⟩ : ∃ l, s.lnk (o, n) = l := ⟨_, rfl⟩
  rw [hl] at hown hlen hlook hNc hels hvc
  obtain ⟨N, hN⟩ : ∃ N, l.length = N := ⟨_, rfl⟩
  obtain ⟨w1, hw1⟩ : ∃ w1, w1 = w.alloc (.cells #[.string o, .string n, .string who] 55) := ⟨_, rfl⟩
  have q1 : Below w.heap.size w w1 := by rw [hw1]; exact (Below.refl _ _).alloc (Nat.le_refl _) _
  have s1 := h.below q1
  have p0 : w1.heap[w.heap.size]? = some (.cells #[.string o, .string n, .string who] 55 (0, 0)) := by rw [hw1]; exact heap_alloc_new w _
  have hp1 : w.heap.size < w1.heap.size := (Array.getElem?_eq_some_iff.1 p0).1
  have hfree : col w.heap.size = none := h.free (Nat.le_refl _)
  have HK := hid (fun W (hW : Below w1.heap.size w1 W) => (⟨(s1.below hW).cell.2.2.2.1, by rw [cell_of_row W _ 0 _ _ (0, 0) ((hW.block _ hp1).trans p0)]; rfl, by rw [cell_of_row W _ 1 _ _ (0, 0) ((hW.block _ hp1).trans p0)]; rfl,
      by rw [← hN]; exact hlook W (by rw [hW.block _ (s1.dom _ _ s1.b3col), q1.block _ (h.dom _ _ h.b3col)])⟩ :
    W.cell? ⟨sb, 3, none⟩ = some (.map (some b3)) ∧ W.cell? ⟨w.heap.size, 0, none⟩ = some (.string o) ∧ W.cell? ⟨w.heap.size, 1, none⟩ = some (.string n) ∧
      (Instr.lookup 78 (.map (some b3)) (.agg #[.string o, .string n]) false).run Tryz.prog W = .ok (.slice A N c) W))
  have HS1 := hid s1
  have HQ1 := hid q1
  have HP0 := hid p0
  have HE1 := hid (hels.below q1)
  have HVC := hid hvc
  have HP := hid hp
  have HLN := hid hN
  have HSZ : Hid (∀ b ∈ l, okB b.1 ∧ okR b.2) := hid (fun r hr => h.sz.lnk (o, n) r (by rw [hl]; exact hr))
  have HNN : Hid (s.kn.length + 16 * N ≤ 90000000000 ∧ s.fr.length + 16 * N ≤ 90000000000 ∧ s.ic + N ≤ 90000000000) := hid ⟨by omega, by omega, by omega⟩
  have HBND : Hid (N ≤ 90000000000) := hid (by omega)
  have HFR := hid hfree
  have hii : s.link ((o, n), who) = l.foldl (St.linkO ((o, n), who)) s := by unfold St.link; rw [hl]
  rw [hii]
  rw [hN] at hNc
  have hN63 : N ≤ 9223372036854775807 := by omega
  clear h hp hown hlook hvc hels q1 s1 p0 hl hN hii hfree hlen hn hf
  simp only
  go_enter Tryz.func42, Tryz.ntmps42
  go_wp2_with fail
  rw [← hw1]
  clear hw1
  obtain ⟨k1, k2, k3, k4⟩ := HK.out _ (Below.refl _ _)
  go_region_held3 (fun w' => w'.cell? ⟨sb, 3, none⟩ = some (.map (some b3)) ∧ w'.cell? ⟨w.heap.size, 0, none⟩ = some (.string o) ∧ w'.cell? ⟨w.heap.size, 1, none⟩ = some (.string n) ∧
      (Instr.lookup 78 (.map (some b3)) (.agg #[.string o, .string n]) false).run Tryz.prog w' = .ok (.slice A N c) w')
    (exact HK.out _ (Below.refl _ _).drew) (fail)
  go_wp2_with fail
  clear k1 k2 k3 k4 HK
  go_loopw [17] (fun i wr => ∃ (k : Nat) (vK : Value) (cK : Col), i = .int .i64 (k : Int) ∧ k ≤ N ∧ Hid (Sol wr B sb b0 b1 b2 b3 b4 vK cK ((l.take k).foldl (St.linkO ((o, n), who)) s)) ∧ Hid (Ext Ml w1 wr col cK)) (fun i _ => N - (intOf i).toNat)
  case atStart => exact ⟨0, vF, col, rfl, Nat.zero_le _, hid (HS1.out.below (Below.refl _ _).drew), hid (Ext.of_below Ml col (Below.refl _ _).drew)⟩
  case round =>
    obtain ⟨k, vK, cK, rfl, hk, HS, HX⟩ := hrel
    obtain ⟨wo, hwo⟩ : ∃ x, x = wr := ⟨_, rfl⟩
    subst hwo
    by_cases hlt : k < N
    · obtain ⟨⟨nm, ⟨go, gn⟩⟩, hx⟩ : ∃ x, l[k]? = some x := ⟨_, List.getElem?_eq_getElem (by rw [HLN.out]; exact hlt)⟩
      have hel : Els encK wo w.heap.size A l := HE1.out.keep (fun ad e hb => HX.out.block _ (Nat.lt_of_lt_of_le hb HQ1.out.size) (fun c hc => by
        have := HVC.out ad.block (by rw [e]; rfl)
        rw [this] at hc
        cases hc
        unfold Ml Ma Mg
        omega))
      obtain ⟨ad, aj, rfl, hab, ea, hbj, a0, ai⟩ := hel.get hx
      have a0 := a0 _ rfl
      have a1 := ai 1 _ (by omega) rfl
      have a2 := ai 2 _ (by omega) rfl
      have hpw : wo.heap[w.heap.size]? = some (.cells #[.string o, .string n, .string who] 55 (0, 0)) := (HX.out.free hp1 HFR.out).trans HP0.out
      have hlw : w.heap.size < wo.heap.size := Nat.lt_of_lt_of_le hp1 HX.out.size
      have k4a : (wo.alloc (.cells #[.string nm, .string go, .string gn] 104)).cell? ⟨w.heap.size, 2, none⟩ = some (.string who) := by
        rw [cell_of_row _ _ 2 _ _ (0, 0) (((MapKept.heap_alloc wo _).2 _ hlw).trans hpw)]; rfl
      have hk0 : (0 : Int) ≤ (k : Int) := Int.natCast_nonneg _
      have hk1 : (k : Int) < (N : Int) := by omega
      obtain ⟨sK, esK⟩ : ∃ sK, sK = (l.take k).foldl (St.linkO ((o, n), who)) s := ⟨_, rfl⟩
      have hlen := links_len ((o, n), who) (l.take k) s
      rw [← esK] at HS hlen
      have htk : (l.take k).length = k := by rw [List.length_take, HLN.out]; omega
      rw [htk] at hlen
      have hnx := foldl_take_succ (St.linkO ((o, n), who)) s hx
      rw [← esK] at hnx
      have HNX := hid hnx
      have HSO := hid (HSZ.out _ (List.mem_of_getElem? hx))
      have HIC : Hid (sK.ic ≤ 90000000000) := hid (by have := HNN.out; omega)
      have HLE : Hid (sK.kn.length ≤ s.kn.length + 16 * k ∧ sK.fr.length ≤ s.fr.length + 16 * k) := hid ⟨hlen.1, hlen.2.1⟩
      have HPW := hid hpw
      have HLW := hid hlw
      have ea : ad.add (k * 3) = aj := ea
      simp only at HSO
      clear hx hel hab hbj ai hlen htk hnx esK hpw hlw
      go_wp2_with fail
      clear k4a
      obtain ⟨w2, hw2⟩ : ∃ w2, w2 = wo.alloc (.cells #[.string nm, .string go, .string gn] 104) := ⟨_, rfl⟩
      obtain ⟨w3, hw3⟩ : ∃ w3, w3 = w2.alloc (.cells #[.string who, .string nm] 24) := ⟨_, rfl⟩
      rw [← hw2, ← hw3]
      have q2 : Below wo.heap.size wo w2 := by rw [hw2]; exact (Below.refl _ _).alloc (Nat.le_refl _) _
      have q3 : Below w2.heap.size w2 w3 := by rw [hw3]; exact (Below.refl _ _).alloc (Nat.le_refl _) _
      have hz2 : w2.heap.size = wo.heap.size + 1 := by rw [hw2]; simp
      have l2 : w2.heap[wo.heap.size]? = some (.cells #[.string nm, .string go, .string gn] 104 (0, 0)) := by rw [hw2]; exact heap_alloc_new wo _
      have l3 := (q3.block wo.heap.size (by omega)).trans l2
      have x3 : RoleAt w3 (wo.heap.size + 1) who nm := by rw [hw3, ← hz2]; exact RoleAt.new w2 who nm
      have q23 : Below wo.heap.size wo w3 := q2.trans (q3.mono q2.size)
      have s3 := HS.out.below q23
      have hl3 : wo.heap.size < w3.heap.size := (Array.getElem?_eq_some_iff.1 l3).1
      have hx3 := x3.lt
      have f1 : cK wo.heap.size = none := HS.out.free (Nat.le_refl _)
      have f2 : cK (wo.heap.size + 1) = none := HS.out.free (Nat.le_succ _)
      have HGS : Hid (∀ (b : Nat) (v : Value) {i j : Nat} {y z : Lit}, cK b = some (i, y) → (∀ g, v.ownBlock = some g → cK g = some (j + 10, z)) → ∀ g ∈ [sb, wo.heap.size, wo.heap.size + 1], g < w3.heap.size ∧ (i ≠ 0 → g ≠ b) ∧ some g ≠ v.ownBlock) := hid (fun b v i j y z hb hv g hg => by
        simp only [List.mem_cons, List.not_mem_nil, or_false] at hg
        rcases hg with rfl | rfl | rfl
        · refine ⟨s3.dom _ _ s3.csb, fun hi e => ?_, fun e => ?_⟩
          · rw [← e, s3.csb] at hb; cases hb; exact hi rfl
          · have := hv _ e.symm; rw [s3.csb] at this; simp at this
        · refine ⟨hl3, fun _ e => ?_, fun e => ?_⟩
          · rw [← e, f1] at hb; cases hb
          · have := hv _ e.symm; rw [f1] at this; cases this
        · refine ⟨hx3, fun _ e => ?_, fun e => ?_⟩
          · rw [← e, f2] at hb; cases hb
          · have := hv _ e.symm; rw [f2] at this; cases this)
      have HKS : Hid (∀ W, Kp [sb, wo.heap.size, wo.heap.size + 1] w3 W → (fun w' => w'.cell? ⟨sb, 1, none⟩ = some (.map (some b1)) ∧ w'.cell? ⟨wo.heap.size + 1, 0, none⟩ = some (.string who) ∧ w'.cell? ⟨wo.heap.size + 1, 1, none⟩ = some (.string nm) ∧ w'.cell? ⟨wo.heap.size, 1, none⟩ = some (.string go) ∧ w'.cell? ⟨wo.heap.size, 2, none⟩ = some (.string gn)) W) := hid (fun W hW => ⟨by rw [cell_of_row W (sb) 1 _ _ (0, 0) ((hW sb (by simp)).trans s3.row)]; rfl, by rw [cell_of_row W (wo.heap.size + 1) 0 _ _ (0, 0) ((hW (wo.heap.size + 1) (by simp)).trans x3)]; rfl, by rw [cell_of_row W (wo.heap.size + 1) 1 _ _ (0, 0) ((hW (wo.heap.size + 1) (by simp)).trans x3)]; rfl, by rw [cell_of_row W (wo.heap.size) 1 _ _ (0, 0) ((hW wo.heap.size (by simp)).trans l3)]; rfl, by rw [cell_of_row W (wo.heap.size) 2 _ _ (0, 0) ((hW wo.heap.size (by simp)).trans l3)]; rfl⟩)
      have HS3 := hid s3
      have HQ3 := hid q23
      have HL3 := hid l3
      have HXR := hid x3
      have F12 : Hid (cK wo.heap.size = none ∧ cK (wo.heap.size + 1) = none) := hid ⟨f1, f2⟩
      clear s3 l3 l2 x3 q2 q3 hw2 hw3 q23 f1 f2 a0 a1 a2
      obtain ⟨v, ho, hvl, hvc, hent⟩ := HS3.out.inc.entry kr_inj klR Tryz.underlying76 so_z84 (by have := HIC.out; unfold maxLen; omega) (k := (who, nm)) ⟨HP.out.2, HSO.out.1⟩ (keyR ⟨HP.out.2, HSO.out.1⟩)
      unfold rV at hent
      simp only at hent
      obtain ⟨A, cA, rfl, -, -, -⟩ := ho.els
      have hbl := HS3.out.dom _ _ HS3.out.b1col
      have hgs : ∀ g ∈ [sb, wo.heap.size, wo.heap.size + 1], g < w3.heap.size ∧ g ≠ b1 ∧ some g ≠ (Value.slice A (sK.inc (who, nm)).length cA).ownBlock := fun g hg => by have := HGS.out b1 (.slice A (sK.inc (who, nm)).length cA) HS3.out.b1col hvc g hg; exact ⟨this.1, this.2.1 (by omega), this.2.2⟩
      have hvb : ∀ g, (Value.slice A (sK.inc (who, nm)).length cA).ownBlock = some g → g < w3.heap.size ∧ g ≠ b1 := fun g hg => ⟨(ho.lt g hg).2, fun e => by have h1 := hvc g hg; rw [e, HS3.out.b1col] at h1; simp at h1⟩
      obtain ⟨st1, u1, run1, g1, z1, fin1⟩ := hent w3.drew rfl
      obtain ⟨st2, u2, run2, g2, z2, fin2⟩ := hent (w3.alloc (.cells #[.string go, .string gn] 24)).drew ((MapKept.heap_alloc w3 _).2 _ hbl)
      have zX : (w3.alloc (.cells #[.string go, .string gn] 24)).drew.heap.size = w3.heap.size + 1 := by simp
      have zD : w3.drew.heap.size = w3.heap.size := rfl
      have kpD := hid ((Kp.refl [sb, wo.heap.size, wo.heap.size + 1] w3).drew)
      have kpA := hid (((Kp.refl [sb, wo.heap.size, wo.heap.size + 1] w3).alloc (fun g hg => (hgs g hg).1) (.cells #[.string go, .string gn] 24)).drew)
      have kp1 := hid (kpD.out.grown g1 (fun g hg => (hgs g hg).1) (fun g hg => by simp only [ne_eq, Option.some.injEq]; exact (hgs g hg).2.1))
      have kp1a := hid (kp1.out.alloc (fun g hg => by have := (hgs g hg).1; omega) (.cells #[.string go, .string gn] 24))
      have kp2 := hid (kpA.out.grown g2 (fun g hg => by have := (hgs g hg).1; omega) (fun g hg => by simp only [ne_eq, Option.some.injEq]; exact (hgs g hg).2.1))
      have oA := hid ((Own.kept ho (w' := u1) fun g hg => g1.block g (hvb g hg).1 (by simp only [ne_eq, Option.some.injEq]; exact (hvb g hg).2)).alloc (.cells #[.string go, .string gn] 24))
      have oB := hid (Own.kept ho (w' := u2) fun g hg => (g2.block g (by have := (hvb g hg).1; omega) (by simp only [ne_eq, Option.some.injEq]; exact (hvb g hg).2)).trans ((MapKept.heap_alloc w3 _).2 g (hvb g hg).1))
      have rA := hid (reads_new u1 #[.string go, .string gn] 24 (0, 0))
      have rB := hid ((reads_newd w3 #[.string go, .string gn] 24 (0, 0)).grown g2 (fun ad e => by cases e; exact ⟨by simp, by simp only [ne_eq, Option.some.injEq]; omega⟩))
      have bA := hid ((((But.refl (fun g => g = b1 ∨ some g = (Value.slice A (sK.inc (who, nm)).length cA).ownBlock) w3).drew).then_grown g1 (fun g e => .inr (.inl (Option.some.inj e).symm))).alloc (.cells #[.string go, .string gn] 24))
      have bB := hid ((((But.refl (fun g => g = b1 ∨ some g = (Value.slice A (sK.inc (who, nm)).length cA).ownBlock) w3).alloc (.cells #[.string go, .string gn] 24)).drew).then_grown g2 (fun g e => .inr (.inl (Option.some.inj e).symm)))
      have FA := hid fin1
      have FB := hid fin2
      have GS := hid hgs
      have VB := hid hvb
      have Z1 : Hid (u1.heap.size = w3.heap.size ∧ u2.heap.size = w3.heap.size + 1 ∧ (u1.alloc (.cells #[.string go, .string gn] 24)).heap.size = w3.heap.size + 1 ∧ b1 < w3.heap.size) := hid ⟨by omega, by omega, by simp; omega, hbl⟩
      have FBW : Hid (u1.heap[b1]? = (u1.alloc (.cells #[.string go, .string gn] 24)).heap[b1]?) := hid ((MapKept.heap_alloc u1 _).2 _ (by omega)).symm
      have VC := hid hvc
      have hbB : B ≤ w3.heap.size := HS3.out.base
      have hll : (sK.inc (who, nm)).length ≤ 1000000000000 := by have := HIC.out; omega
      clear fin1 fin2 g1 g2 ho hvc hvl hent hvb hgs zX zD hbl
      go_region_held3 (fun w' => w'.cell? ⟨sb, 1, none⟩ = some (.map (some b1)) ∧ w'.cell? ⟨wo.heap.size + 1, 0, none⟩ = some (.string who) ∧ w'.cell? ⟨wo.heap.size + 1, 1, none⟩ = some (.string nm) ∧ w'.cell? ⟨wo.heap.size, 1, none⟩ = some (.string go) ∧ w'.cell? ⟨wo.heap.size, 2, none⟩ = some (.string gn))
        (first | exact HKS.out _ kpD.out | exact HKS.out _ kpA.out | exact HKS.out _ kp1.out | exact HKS.out _ kp1a.out | exact HKS.out _ kp2.out | exact HKS.out _ kp5.out | exact HKS.out _ kp6.out)
        ((first | (refine step_app1 (E := encR) (by rfl) slR (.tmp 31) (.tmp 34) (by rfl) (B := B) (v := .slice A (sK.inc (who, nm)).length cA) (l := sK.inc (who, nm)) oA.out (by rfl) (ad := ⟨u1.heap.size, 0, none⟩) (c := 1) (go, gn) (by rfl) rA.out hll (by omega) (by have := Z1.out; omega) ?_; intro A' c' w5 ho5 hg5 hl5; obtain ⟨w6, run6, g6, z6, fin6⟩ := FA.out w5 (.slice A' ((sK.inc (who, nm)).length + 1) c') ((hg5.block b1 (by have := Z1.out; omega) (fun e => (VB.out b1 e.symm).2 rfl)).trans FBW.out.symm); have kp5 := hid (kp1a.out.grown hg5 (fun g hg => by have := (GS.out g hg).1; have := Z1.out; omega) (fun g hg => (GS.out g hg).2.2)); have kp6 := hid (kp5.out.grown g6 (fun g hg => by have := (GS.out g hg).1; have := Z1.out; have := hg5.size; omega) (fun g hg => by simp only [ne_eq, Option.some.injEq]; exact (GS.out g hg).2.1)); have b6 := hid ((bA.out.then_grown hg5 (fun g e => .inr (.inr e.symm))).then_grown g6 (fun g e => .inr (.inl (Option.some.inj e).symm))); have l6 := hid (loc_of (a := w3.heap.size) hl5 (by have := Z1.out; omega)); have o6 := hid (own_behind ho5 g6 l6.out (fun g e => (VB.out g e).2) (by have := Z1.out; omega)); have F6 := hid fin6; clear fin6 g6 hl5 ho5 hg5) | (refine step_app1 (E := encR) (by rfl) slR (.tmp 31) (.tmp 34) (by rfl) (B := B) (v := .slice A (sK.inc (who, nm)).length cA) (l := sK.inc (who, nm)) oB.out (by rfl) (ad := ⟨w3.heap.size, 0, none⟩) (c := 1) (go, gn) (by rfl) rB.out hll (by omega) (by have := Z1.out; omega) ?_; intro A' c' w5 ho5 hg5 hl5; obtain ⟨w6, run6, g6, z6, fin6⟩ := FB.out w5 (.slice A' ((sK.inc (who, nm)).length + 1) c') ((hg5.block b1 (by have := Z1.out; omega) (fun e => (VB.out b1 e.symm).2 rfl))); have kp5 := hid (kp2.out.grown hg5 (fun g hg => by have := (GS.out g hg).1; have := Z1.out; omega) (fun g hg => (GS.out g hg).2.2)); have kp6 := hid (kp5.out.grown g6 (fun g hg => by have := (GS.out g hg).1; have := Z1.out; have := hg5.size; omega) (fun g hg => by simp only [ne_eq, Option.some.injEq]; exact (GS.out g hg).2.1)); have b6 := hid ((bB.out.then_grown hg5 (fun g e => .inr (.inr e.symm))).then_grown g6 (fun g e => .inr (.inl (Option.some.inj e).symm))); have l6 := hid (loc_of (a := w3.heap.size) hl5 (by have := Z1.out; omega)); have o6 := hid (own_behind ho5 g6 l6.out (fun g e => (VB.out g e).2) (by have := Z1.out; omega)); have F6 := hid fin6; clear fin6 g6 hl5 ho5 hg5)))
      all_goals
        obtain ⟨h6, x6⟩ := HS3.out.incd (v := .slice A (sK.inc (who, nm)).length cA) (v' := .slice A' ((sK.inc (who, nm)).length + 1) c') HSO.out.2 VC.out b6.out l6.out (fun g hg => (o6.out.lt g hg).2) (F6.out (go, gn) o6.out (fun g hg h1 h2 => b6.out.block g hg (fun h => h.elim h1 h2)) l6.out)
        have HX6 := hid ((HX.out.trans (Ext.of_below Ml cK HQ3.out)).trans (x6.mono (fun i hi => Or.inr hi)))
        have HS6 := hid h6
        have l6r := (kp6.out wo.heap.size (by simp)).trans HL3.out
        have x6r := (kp6.out (wo.heap.size + 1) (by simp)).trans HXR.out
        have z6r : wo.heap.size + 1 < w6.heap.size := Nat.lt_of_lt_of_le hx3 b6.out.size
        obtain ⟨c6, ec6⟩ : ∃ c, c = paint cK (Value.slice A' ((sK.inc (who, nm)).length + 1) c') (2 + 10, kr (who, nm)) := ⟨_, rfl⟩
        have f6 : c6 wo.heap.size = none ∧ c6 (wo.heap.size + 1) = none := by
          rw [ec6]
          exact ⟨(x6.col _ (by omega)).trans F12.out.1, (x6.col _ (by omega)).trans F12.out.2⟩
        rw [← ec6] at HS6 HX6
        obtain ⟨s6, es6⟩ : ∃ s6, s6 = sK.addInc (who, nm) (go, gn) := ⟨_, rfl⟩
        rw [← es6] at HS6
        have HLE6 : Hid (s6.kn.length ≤ s.kn.length + 16 * k ∧ s6.fr.length ≤ s.fr.length + 16 * k) := hid (by rw [es6]; exact HLE.out)
        have HL6 := hid l6r
        have HR6 := hid x6r
        have HZ6 := hid z6r
        have HF6 := hid f6
        have HES6 := hid es6
        clear kpD kpA kp1 kp1a kp2 kp5 kp6 oA oB rA rB bA bB FA FB GS VB Z1 FBW VC b6 l6 o6 F6 run1 run2 run6 hbB hll h6 x6 z1 z2 z6 l6r x6r z6r f6 ec6 es6
        go_wp2_with fail
        go_loopw [38] (fun i wr => ∃ (m : Nat) (vM : Value) (cM : Col), i = .int .i64 (m : Int) ∧ m ≤ 16 ∧ Hid (Sol wr B sb b0 b1 b2 b3 b4 vM cM (((List.range 16).take m).foldl (St.linkD (who, nm) (go, gn)) s6)) ∧ Hid (Ext Ma w6 wr c6 cM)) (fun i _ => 16 - (intOf i).toNat)
        case atStart => exact ⟨0, vK, c6, rfl, by omega, HS6, hid (Ext.refl Ma _ c6)⟩
        case round =>
          obtain ⟨m, vM, cM, rfl, hm, HSM, HXM⟩ := hrel
          by_cases hlt2 : m < 16
          · have hxm : (List.range 16)[m]? = some m := by rw [List.getElem?_range hlt2]
            have hmx := foldl_take_succ (St.linkD (who, nm) (go, gn)) s6 hxm
            have hml := linkD_len (who, nm) (go, gn) ((List.range 16).take m) s6
            have hmt : ((List.range 16).take m).length = m := by rw [List.length_take, List.length_range]; omega
            rw [hmt] at hml
            obtain ⟨sM, esM⟩ : ∃ sM, sM = ((List.range 16).take m).foldl (St.linkD (who, nm) (go, gn)) s6 := ⟨_, rfl⟩
            rw [← esM] at HSM hmx hml
            obtain ⟨D, hD⟩ : ∃ D, domB ((m : Int) + 1) = D := ⟨_, rfl⟩
            have hOD : okB D := by rw [← hD]; exact Nat.le_trans (domB_size _) (by unfold maxLen; omega)
            have HDOM := hid (fun W => by have := domain_any ((m : Int) + 1) (by omega) (by omega) W; rw [show (⟨(domL ((m : Int) + 1)).toArray⟩ : ByteArray) = D from hD] at this; exact this)
            obtain ⟨kb, hkb⟩ : ∃ kb, decide (((who, nm), D) ∈ sM.kn) = kb := ⟨_, rfl⟩
            have HKN := hid (fun W (hW : Below wr.heap.size wr W) => by
              have := knows_any (HSM.out.below hW) ((who, nm), D) ⟨⟨HP.out.2, HSO.out.1⟩, hOD⟩
              rw [hkb] at this
              exact this)
            have HA := hid (fun W (hW : Below wr.heap.size wr W) => (add_any (HSM.out.below hW) ((go, gn), D) ⟨HSO.out.2, hOD⟩ (by have := HNN.out; have := HLE6.out; omega) (by have := HNN.out; have := HLE6.out; omega)).mono
              (fun e w' hh => (⟨hh.1, by
                obtain ⟨-, v5, c5, h5, h6⟩ := hh
                exact ⟨v5, c5, hid h5, hid (HXM.out.trans ((Ext.of_below Ma cM hW).trans h6))⟩⟩ : e = .returned (.tuple #[]) ∧ ∃ v5 c5, Hid (Sol w' B sb b0 b1 b2 b3 b4 v5 c5 (sM.add ((go, gn), D))) ∧ Hid (Ext Ma w6 w' c6 c5))))
            have lq := (HXM.out.free (by have := HZ6.out; omega) HF6.out.1).trans HL6.out
            have xq := (HXM.out.free HZ6.out HF6.out.2).trans HR6.out
            have zq : wo.heap.size + 1 < wr.heap.size := Nat.lt_of_lt_of_le HZ6.out HXM.out.size
            have HK := hid (fun W (hW : Below wr.heap.size wr W) => (⟨by rw [cell_of_row W _ 1 _ _ (0, 0) ((hW.block wo.heap.size (by omega)).trans lq)]; rfl, by rw [cell_of_row W _ 2 _ _ (0, 0) ((hW.block wo.heap.size (by omega)).trans lq)]; rfl,
                by rw [cell_of_row W _ 0 _ _ (0, 0) ((hW.block (wo.heap.size + 1) zq).trans xq)]; rfl, by rw [cell_of_row W _ 1 _ _ (0, 0) ((hW.block (wo.heap.size + 1) zq).trans xq)]; rfl⟩ :
              W.cell? ⟨wo.heap.size, 1, none⟩ = some (.string go) ∧ W.cell? ⟨wo.heap.size, 2, none⟩ = some (.string gn) ∧ W.cell? ⟨wo.heap.size + 1, 0, none⟩ = some (.string who) ∧ W.cell? ⟨wo.heap.size + 1, 1, none⟩ = some (.string nm)))
            have HMX := hid hmx
            have HKB := hid hkb
            have HDD := hid hD
            simp only at HKN HA
            clear hxm hmx hml hmt hkb lq xq zq hD hOD
            cases kb with
            | false =>
              go_wp2_with (first | (go_at_call 38; (refine (HDOM.out _).mono ?_); rintro er w8 ⟨rfl, b8⟩; (obtain ⟨j0, j1, j2, j3⟩ := HK.out w8 b8); have B8 := hid b8; clear b8) | (go_at_call 20; (refine (HKN.out _ B8.out).mono ?_); rintro er w9 ⟨rfl, b9⟩))
              go_roundw
              case rel => exact ⟨m + 1, vM, cM, by go_num, by omega, hid (by
                rw [HMX.out, linkD_no (by rw [HDD.out]; exact of_decide_eq_false HKB.out)]
                exact HSM.out.below (B8.out.trans (b9.mono B8.out.size))), hid (HXM.out.trans (Ext.of_below Ma cM (B8.out.trans (b9.mono B8.out.size))))⟩
              case measure => simp [intOf]; omega
            | true =>
              go_wp2_with (first | (go_at_call 38; (refine (HDOM.out _).mono ?_); rintro er w8 ⟨rfl, b8⟩; (obtain ⟨j0, j1, j2, j3⟩ := HK.out w8 b8); have B8 := hid b8; clear b8) | (go_at_call 20; (refine (HKN.out _ B8.out).mono ?_); rintro er w9 ⟨rfl, b9⟩; (obtain ⟨j0, j1, j2, j3⟩ := HK.out w9 (B8.out.trans (b9.mono B8.out.size))); have B9 := hid (B8.out.trans (b9.mono B8.out.size)); clear b9) | (go_at_call 58; (refine (HA.out _ B9.out).mono ?_); rintro er w10 ⟨rfl, v5, c5, HS5, HX5⟩))
              go_roundw
              case rel => exact ⟨m + 1, v5, c5, by go_num, by omega, hid (by
                rw [HMX.out, linkD_yes (by rw [HDD.out]; exact of_decide_eq_true HKB.out), HDD.out]
                exact HS5.out), HX5⟩
              case measure => simp [intOf]; omega
          · obtain rfl : m = 16 := by omega
            go_wp2
            go_roundw
            case rel => exact ⟨k + 1, vM, cM, by go_num, by omega, hid (by
              rw [HNX.out, linkO_eq, ← HES6.out]
              have := HSM.out
              rwa [List.take_of_length_le (by rw [List.length_range]; omega)] at this), hid (HX6.out.trans (HXM.out.mono (fun i hi => Or.inl hi)))⟩
            case measure => simp [intOf]; omega
    · obtain rfl : N = k := by omega
      go_wp2
      go_end0
      have e1 : l.take N = l := List.take_of_length_le (by rw [HLN.out]; exact Nat.le_refl _)
      exact ⟨rfl, vK, cK, by have := HS.out; rwa [e1] at this, (Ext.of_below Ml col HQ1.out).trans HX.out⟩
end Go.Proofs.YtfbapbpggicfbaaGreatDoor.Sh
