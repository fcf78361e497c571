/-
  The program's Members, by contract.
-/
import Derived.Test.YtcligogmmjdobaaGreatDoorJp36
import Derived.Test.YtcligogmmjdobaaGreatDoorJp33
import Derived.Test.YtcligogmmjdobaaGreatDoorJp10
import Derived.Test.YtcligogmmjdobaaGreatDoorJp13
set_option linter.unusedVariables false
set_option linter.unusedSimpArgs false
namespace Go.Proofs.YtcligogmmjdobaaGreatDoor.Sh
open Go Go.RowKit
open Go.Maps (Keyed)

set_option linter.unusedSimpArgs false
set_option linter.unusedVariables false
/-- Names in order, none twice. -/
def SortedB (l : List ByteArray) : Prop := l.Pairwise fun x y => bl x y = true
theorem sortedB_of {l l' : List ByteArray} (hp : l'.Perm l) (hn : l.Nodup) (h : l'.Pairwise fun x y => bl y x = false) : SortedB l' := by
  have hn' : l'.Nodup := hp.nodup_iff.2 hn
  refine (h.and hn').imp fun {a b} hab => ?_
  rcases bl_three a b with h1 | h1 | h1
  · exact h1
  · exact absurd h1 hab.2
  · rw [h1] at hab; cases hab.1
structure GathM (out : List Crd) (r : Rl) (lst : List ByteArray) (left : Lit → Bool) : Prop where
  nd : lst.Nodup
  mem : ∀ x, x ∈ lst ↔ Imp (· ∈ out) (r, x) ∧ left (ks x) = false
theorem gathM_len {out : List Crd} {r : Rl} {lst : List ByteArray} {left : Lit → Bool} (h : GathM out r lst left) : lst.length ≤ out.length * out.length := by
  have e : (lst.map fun x => ((r, x) : Pr)).length = lst.length := List.length_map _
  rw [← uni_length, ← e]
  refine nodup_length ?_ fun p hp => ?_
  · exact List.Pairwise.map _ (fun a b hab e => hab (Prod.mk.inj e).2) h.nd
  · obtain ⟨x, hx, rfl⟩ := List.mem_map.1 hp
    exact imp_uni ((h.mem x).1 hx).1
theorem left_other {left : Lit → Bool} {x y : ByteArray} (hy : okB y) (hx : okB x) : ((fun z => left z && !z.sameKey (ks x)) (ks y) = false) ↔ left (ks y) = false ∨ y = x := by
  by_cases e : y = x
  · subst e
    have : (ks y).sameKey (ks y) = true := WideAt.sameKey_self (lawS.key (keyS hy))
    simp [this]
  · have : (ks y).sameKey (ks x) = false := Maps.sameKey_ne fun e' => e (ks_inj _ _ hy hx e')
    simp [this, e]
theorem GathM.skip {out : List Crd} {r : Rl} {lst : List ByteArray} {left : Lit → Bool} {x : ByteArray} (h : GathM out r lst left) (hx : left (ks x) = true) (hn : ¬ Imp (· ∈ out) (r, x)) (hox : okB x) (hok : ∀ p, Imp (· ∈ out) p → okB p.2) : GathM out r lst (fun z => left z && !z.sameKey (ks x)) :=
  ⟨h.nd, fun y => by
    rw [h.mem]
    refine and_congr_right fun hy => ?_
    rw [left_other (hok _ hy) hox]
    exact ⟨.inl, fun h' => h'.elim id fun e => absurd (e ▸ hy) hn⟩⟩
theorem GathM.step {out : List Crd} {r : Rl} {lst : List ByteArray} {left : Lit → Bool} {x : ByteArray} (h : GathM out r lst left) (hx : left (ks x) = true) (hi : Imp (· ∈ out) (r, x)) (hox : okB x) (hok : ∀ p, Imp (· ∈ out) p → okB p.2) : GathM out r (lst ++ [x]) (fun z => left z && !z.sameKey (ks x)) := by
  refine ⟨List.nodup_append.2 ⟨h.nd, by simp, fun a ha b hb e => ?_⟩, fun y => ?_⟩
  · rw [List.mem_singleton.1 hb] at e
    subst e
    rw [((h.mem a).1 ha).2] at hx
    cases hx
  · rw [List.mem_append, List.mem_singleton, h.mem]
    constructor
    · rintro (⟨h1, h2⟩ | rfl)
      · exact ⟨h1, (left_other (hok _ h1) hox).2 (.inl h2)⟩
      · exact ⟨hi, (left_other hox hox).2 (.inr rfl)⟩
    · rintro ⟨h1, h2⟩
      rcases (left_other (hok _ h1) hox).1 h2 with h3 | h3
      · exact .inl ⟨h1, h3⟩
      · exact .inr h3
set_option maxHeartbeats 16000000 in
theorem members_any (A : Option Addr) (all : List Crd) (n c : Nat) (hn : all.length = n) (hc : n ≤ c) (hc2 : c ≤ 9223372036854775807) (hm : n ≤ 1000) (o nm : ByteArray) (ho : okB o) (hnm : okB nm) (w : World) (h : Crs w w.heap.size A all) :
    Calls Tryz.prog 15 #[.slice A n c, .agg #[.string o, .string nm]] w fun e w' => ∃ out A' c' lst, CountsOf out all ∧ e = .returned (.slice A' lst.length c') ∧ SortedB lst ∧ (∀ x, x ∈ lst ↔ Imp (· ∈ out) ((o, nm), x)) ∧ Own (E := encS) w' w.heap.size 9 (.slice A' lst.length c') lst ∧ Below w.heap.size w w' := by
  obtain ⟨wb, hwb⟩ : ∃ wb, wb = w.alloc (.cells #[.string o, .string nm] 33) := ⟨_, rfl⟩
  have q1 : Below w.heap.size w wb := by rw [hwb]; exact (Below.refl _ _).alloc (Nat.le_refl _) _
  have r1 : RoleAt wb w.heap.size o nm := by rw [hwb]; exact RoleAt.new w o nm
  have HST := hid (settled_any A all n c hn hc hc2 hm wb ((h.below q1).more q1.size))
  have HQ1 := hid q1
  have HR1 := hid r1
  have hr1 := r1.lt
  have HO : Hid (okB o ∧ okB nm) := hid ⟨ho, hnm⟩
  have HM : Hid (all.length ≤ 1000) := hid (by omega)
  clear h hn hc hc2 hm q1 r1 ho hnm
  go_enter Tryz.func15, Tryz.ntmps15
  go_wp2_with fail
  rw [← hwb]
  clear hwb
  go_wp2_with (first | (go_at_call 24; (refine HST.out.mono ?_); rintro er w2 ⟨sb, b0, b1, b2, b3, b4, vF, col, s, out, rfl, hcn, hs, hR, hb⟩; have c0 := hs.cell.1; (obtain ⟨D, hD⟩ := hs.giv); have ho0 := hD.map; have HS := hid hs; have HCN := hid hcn; have HR := hid hR; have HB2 := hid hb; have HD := hid hD; clear hcn hs hR hb hD) | (at_range; refine wpList_range_own _ rfl _ 54 rfl 9 111 lawS Tryz.underlying54 _ b0 s.ic D rfl ho0 ?_; intro w0 hrg0 hg0 hs0) | go_in)
  go_frame
  have hr0 : wb.heap.size ≤ w2.heap.size := HB2.out.size
  have HCOL : Hid (col w2.heap.size = none) := hid (HS.out.free (Nat.le_refl _))
  have HS0 := hid (HS.out.grown hg0 (fun g e => by cases e))
  have HRG0 := hid hrg0
  have HBW0 : Hid (Below wb.heap.size wb w0) := hid (HB2.out.grown hg0 hr0 (fun g e => by cases e))
  have HMC : Hid (∀ c ∈ out, mayC c = true) := hid (fun c hc => (counts_mem HCN.out hc).1)
  have HG0 : Hid (GathM out (o, nm) [] (Maps.has D)) := hid ⟨List.Pairwise.nil, fun p => ⟨fun h => (List.not_mem_nil h).elim, fun h => by
    have h1 := (HD.out.has p (imp_ok HMC.out h.1).2).2 (imp_giv HR.out.laid h.1)
    rw [h1] at h
    cases h.2⟩⟩
  clear c0 ho0 hrg0 hg0 hs0
  go_loopw [6] (fun v wr => ∃ (A' : Option Addr) (c' : Nat) (lst : List ByteArray) (left : Lit → Bool) (cnt b4 : Nat) (vK : Value) (cK : Col) (sK : St), v = .slice A' lst.length c' ∧ Hid (Own (E := encS) wr wb.heap.size 9 (.slice A' lst.length c') lst) ∧ Hid (wr.ranges Tryz.prog 9 tokR b0 w2.heap.size s.ic D left cnt) ∧ Hid (Sol wr wb.heap.size sb b0 b1 b2 b3 b4 vK cK sK) ∧
    Hid (Ready out sK) ∧ Hid (cK w2.heap.size = none ∧ ∀ g, (Value.slice A' lst.length c').ownBlock = some g → cK g = none ∧ g ≠ w2.heap.size) ∧ Hid (GathM out (o, nm) lst left) ∧ Hid (Below wb.heap.size wb wr)) (fun _ wr => wr.rangeLeft b0 w2.heap.size)
  case atStart => exact ⟨none, 0, [], _, _, b4, vF, col, s, rfl, hid (Own.nil _ _ _), HRG0, HS0, HR, hid ⟨HCOL.out, fun g e => by cases e⟩, HG0, HBW0⟩
  case round =>
    obtain ⟨A', c', lst, left, cnt, b4, vK, cK, sK, rfl, HOW, HRG, HSK, HRK, HCK, HGA, HBW⟩ := hrel
    obtain ⟨wo, hwo⟩ : ∃ x, x = wr := ⟨_, rfl⟩
    subst hwo
    have hrg := HRG.out
    go_wp2_with (first | (at_next; refine wpList_next_key rfl _ rfl lawS ks (fun x => .string x) okB (fun x hx => keyS hx) HD.out.keys rfl hrg ?_ ?_) | go_in)
    · intro hl0
      have hlen := gathM_len HGA.out
      have hll : out.length * out.length ≤ 1000 * 1000 := Nat.mul_le_mul HRK.out.len HRK.out.len
      have HSO := hid (sortS_any HOW.out (by omega))
      have HL0 := hid hl0
      clear hlen hll hl0 hrg
      go_wp2_with (go_at_call 30; (refine HSO.out.mono ?_); rintro er w5 ⟨rfl, lst', hp5, hs5, ho5, hb5⟩)
      go_ret
      have hpl := hp5.length_eq
      refine ⟨out, A', c', lst', HCN.out, by rw [hpl]; rfl, sortedB_of hp5 HGA.out.nd hs5, fun p => by rw [hp5.mem_iff, HGA.out.mem]; simp [HL0.out], by rw [hpl]; exact own_mono' ho5 HQ1.out.size, ?_⟩
      have hlt := HOW.out.lt
      have hq := HQ1.out
      refine hq.trans (Below.mono ?_ hq.size)
      exact HBW.out.trans ⟨hb5.os, hb5.tape, hb5.output, hb5.size, fun g hg => hb5.block g (Nat.lt_of_lt_of_le hg HBW.out.size) (fun e => by have := (hlt g e).1; omega)⟩
    · intro x v w1 cnt1 hox hlx hrg1 hlt hg1 hs1 hen
      have HS1 := hid (HSK.out.grown hg1 (fun g e => .inl (by cases e; exact HCK.out.1)))
      have HOW1 := hid (World.ownsRow.kept HOW.out hg1 (by
        cases ho : (Value.slice A' lst.length c').ownBlock with
        | none => exact .inl rfl
        | some g => exact .inr (fun e => (HCK.out.2 g ho).2 (Option.some.inj e))))
      have HBW1 := hid (HBW.out.grown hg1 HBW.out.size (fun g e => by cases e; exact hr0))
      have HON := hid (only_any HS1.out out HRK.out x hox)
      have HRG1 := hid hrg1
      have HLX := hid hlx
      have HLT : Hid (cnt1 < cnt) := hid hlt
      have HOX := hid hox
      have HSZ1 := hid hs1
      have HR1l : Hid (w2.heap.size < w1.heap.size) := hid hrg1.lt
      clear hrg hrg1 hg1 hlx hlt hox hs1
      go_wp2_with (first | (go_at_call 25; (refine HON.out.mono ?_); rintro er w3 ⟨rfl, b4', v3, c3, s3, h3, x3, r3, e3, -, nd3, k3⟩; have X3 := hid x3; have BX := hid (HBW1.out.trans (x3.below HS1.out.low HBW1.out.size)); have rr := HR1.out.below BX.out hr1; have k0 := rr.c0; have kk1 := rr.c1; have HKN := hid (knows_any h3 ((o, nm), x) ⟨HO.out, HOX.out⟩); have H3 := hid h3; have R3 := hid r3; have K3 := hid k3; clear h3 x3 r3 e3 nd3 k3 hen rr))
      obtain ⟨kb, hkb⟩ : ∃ kb, decide (((o, nm), x) ∈ s3.kn) = kb := ⟨_, rfl⟩
      have HKB := hid hkb
      rw [hkb] at HKN
      have fr3 : c3 w2.heap.size = none := (X3.out.col _ HR1l.out).trans HCK.out.1
      have own3 : ∀ g, (Value.slice A' lst.length c').ownBlock = some g → c3 g = none ∧ g ≠ w2.heap.size := fun g e => ⟨(X3.out.col _ (World.ownsRow.lt HOW1.out g e).2).trans (HCK.out.2 g e).1, (HCK.out.2 g e).2⟩
      have HOW3 := hid (own_sub HOW1.out X3.out (fun g e c hc => by rw [(HCK.out.2 g e).1] at hc; cases hc))
      have HRG3 := hid (ranges_at HRG1.out (X3.out.block _ HRG1.out.owns.lt (fun c hc => by rw [HS1.out.b0col] at hc; cases hc; unfold Ma; omega)) (X3.out.free HR1l.out HCK.out.1))
      have HFR := hid fr3
      have HOF := hid own3
      have HIM : Hid (kb = true ↔ Imp (· ∈ out) ((o, nm), x)) := hid (by rw [← hkb, decide_eq_true_iff, K3.out]; simp)
      clear hkb fr3 own3
      cases kb with
      | false =>
        have HNI : Hid (¬ Imp (· ∈ out) ((o, nm), x)) := hid (fun h => by have := HIM.out.2 h; cases this)
        clear HIM
        go_wp2_with (go_at_call 29; (refine HKN.out.mono ?_); rintro er w4 ⟨rfl, b4w⟩)
        have g4 : w3.grownBy w4 none := ⟨b4w.os, b4w.tape, b4w.output, b4w.size, fun g hg _ => b4w.block g hg⟩
        go_roundw
        case rel => exact ⟨A', c', lst, _, cnt1, b4', v3, c3, s3, rfl, hid (World.ownsRow.kept HOW3.out g4 (by cases (Value.slice A' lst.length c').ownBlock <;> simp)), hid (HRG3.out.kept g4 (by simp) (by simp)), hid (H3.out.grown g4 (fun g e => by cases e)), R3, hid ⟨HFR.out, HOF.out⟩,
          hid (HGA.out.skip HLX.out HNI.out HOX.out (fun p hp => (imp_ok HMC.out hp).2)), hid (BX.out.trans (b4w.mono BX.out.size))⟩
        case measure => rw [(HRG3.out.kept g4 (by simp) (by simp)).left_eq, HRG.out.left_eq]; exact HLT.out
      | true =>
        have HI : Hid (Imp (· ∈ out) ((o, nm), x)) := hid (HIM.out.1 rfl)
        clear HIM
        have hlen2 : lst.length ≤ 1000000000000 := by
          have h1 := gathM_len HGA.out
          have hll : out.length * out.length ≤ 1000 * 1000 := Nat.mul_le_mul HRK.out.len HRK.out.len
          omega
        go_wp2_with (first | (go_at_call 29; (refine HKN.out.mono ?_); rintro er w4 ⟨rfl, b4w⟩; have g4 : w3.grownBy (w4.alloc (.cells #[.string x] 9)) none := ⟨b4w.os, b4w.tape, b4w.output, Nat.le_trans b4w.size (by simp), fun g hg _ => ((MapKept.heap_alloc w4 _).2 g (Nat.lt_of_lt_of_le hg b4w.size)).trans (b4w.block g hg)⟩; have G4 := hid g4; have HO6 := hid (World.ownsRow.kept HOW3.out g4 (by cases (Value.slice A' lst.length c').ownBlock <;> simp)); have HRD := hid (reads_new w4 #[.string x] 9 (0, 0)); have B6 := hid ((BX.out.trans (b4w.mono BX.out.size)).alloc (Nat.le_trans BX.out.size b4w.size) (.cells #[.string x] 9)); have hbs : wb.heap.size ≤ (w4.alloc (.cells #[.string x] 9)).heap.size := B6.out.size; clear g4 b4w) | (at_builtin; refine wpList_app1 (E := encS) rfl slS (.tmp 27) (.tmp 29) rfl (B := wb.heap.size) (v := .slice A' lst.length c') (l := lst) HO6.out rfl (ad := ⟨w4.heap.size, 0, none⟩) (c := 1) x rfl HRD.out hlen2 (by omega) hbs ?_; intro A7 c7 w7 ho7 hg7 hl7) | go_in)
        have S6 := H3.out.grown G4.out (fun g e => by cases e)
        have R6 := HRG3.out.kept G4.out (by simp) (by simp)
        have hne1 : some b0 ≠ (Value.slice A' lst.length c').ownBlock := fun e => by
          have := H3.out.b0col
          rw [(HOF.out _ e.symm).1] at this
          cases this
        have hne2 : some w2.heap.size ≠ (Value.slice A' lst.length c').ownBlock := fun e => (HOF.out _ e.symm).2 rfl
        go_roundw
        case rel =>
          refine ⟨A7, c7, lst ++ [x], _, cnt1, b4', v3, c3, s3, by simp, hid (by rw [List.length_append, List.length_singleton]; exact ho7), hid (R6.kept hg7 hne1 hne2), hid (S6.grown hg7 fun g e => .inl (HOF.out g e).1), R3, hid ⟨HFR.out, fun g e => ?_⟩,
            hid (HGA.out.step HLX.out HI.out HOX.out (fun p hp => (imp_ok HMC.out hp).2)), hid (B6.out.grown hg7 hbs fun g e => (World.ownsRow.lt HO6.out g e).1)⟩
          rw [List.length_append, List.length_singleton] at e
          rcases hl7 with h | h
          · exact HOF.out g (h ▸ e)
          · have e2 := Option.some.inj (e.symm.trans h)
            have h1 := R6.lt
            exact ⟨by rw [e2]; exact S6.free (Nat.le_refl _), by omega⟩
        case measure => rw [(R6.kept hg7 hne1 hne2).left_eq, HRG.out.left_eq]; exact HLT.out
end Go.Proofs.YtcligogmmjdobaaGreatDoor.Sh
/-
  The program's Has, by contract.
-/
namespace Go.Proofs.YtcligogmmjdobaaGreatDoor.Sh
open Go Go.RowKit
open Go.Maps (Keyed)

set_option linter.unusedSimpArgs false
set_option linter.unusedVariables false
set_option maxHeartbeats 8000000 in
theorem has_any (A : Option Addr) (all : List Crd) (n c : Nat) (hn : all.length = n) (hc : n ≤ c) (hc2 : c ≤ 9223372036854775807) (hm : n ≤ 1000) (o nm who : ByteArray) (ho : okB o) (hnm : okB nm) (hwho : okB who) (w : World) (h : Crs w w.heap.size A all) :
    Calls Tryz.prog 16 #[.slice A n c, .string who, .agg #[.string o, .string nm]] w fun e w' => ∃ out b, CountsOf out all ∧ e = .returned (.bool b) ∧ (b = true ↔ Imp (· ∈ out) ((o, nm), who)) ∧ Below w.heap.size w w' := by
  obtain ⟨w1, hw1⟩ : ∃ w1, w1 = w.alloc (.cells #[.string o, .string nm] 33) := ⟨_, rfl⟩
  have q1 : Below w.heap.size w w1 := by rw [hw1]; exact (Below.refl _ _).alloc (Nat.le_refl _) _
  have r1 : RoleAt w1 w.heap.size o nm := by rw [hw1]; exact RoleAt.new w o nm
  have HST := hid (settled_any A all n c hn hc hc2 hm w1 ((h.below q1).more q1.size))
  have HQ1 := hid q1
  have HR1 := hid r1
  have HO : Hid (okB o ∧ okB nm ∧ okB who) := hid ⟨ho, hnm, hwho⟩
  have hr1 := r1.lt
  clear h q1 r1 hn hc hc2 hm ho hnm hwho
  go_enter Tryz.func16, Tryz.ntmps16
  go_wp2_with fail
  rw [← hw1]
  clear hw1
  go_wp2_with (go_at_call 24; (refine HST.out.mono ?_); rintro er w2 ⟨sb, b0, b1, b2, b3, b4, vF, col, s, out, rfl, hcn, hs, hR, hb⟩; have HON := hid (only_any hs out hR who HO.out.2.2); have HCN := hid hcn; have HB2 := hid hb; have HR2 := hid (HR1.out.below hb hr1); have HFR : Hid (col w.heap.size = none) := hid (hs.low _ hr1); have HLO := hid hs.low; have HDM := hid hs.dom; clear hcn hs hR hb)
  go_wp2_with (go_at_call 25; (refine HON.out.mono ?_); rintro er w3 ⟨rfl, b4', v3, c3, s3, h3, x3, -, -, -, -, hk3⟩; have hrb := hid ((x3.free HR2.out.lt HFR.out).trans HR2.out); have k0 : w3.cell? ⟨w.heap.size, 0, none⟩ = some (.string o) := (by rw [cell_of_row w3 _ 0 _ _ (0, 0) hrb.out]; rfl); have k1 : w3.cell? ⟨w.heap.size, 1, none⟩ = some (.string nm) := (by rw [cell_of_row w3 _ 1 _ _ (0, 0) hrb.out]; rfl); have HKN := hid (knows_any h3 ((o, nm), who) ⟨⟨HO.out.1, HO.out.2.1⟩, HO.out.2.2⟩); have HK3 := hid hk3; have HX3 := hid (x3.below HLO.out HB2.out.size); clear hk3 x3 h3)
  go_wp2_with (go_at_call 29; (refine HKN.out.mono ?_); rintro er w4 ⟨rfl, b5⟩)
  go_ret
  have h23 := HB2.out.trans HX3.out
  have h24 := h23.trans (b5.mono h23.size)
  exact ⟨out, _, HCN.out, rfl, by rw [decide_eq_true_iff, HK3.out]; simp, HQ1.out.trans (h24.mono HQ1.out.size)⟩
end Go.Proofs.YtcligogmmjdobaaGreatDoor.Sh
/-
  The statements' own told and same, by contract.
-/
namespace Go.Proofs.YtcligogmmjdobaaGreatDoor.Sh
open Go Go.RowKit

set_option linter.unusedSimpArgs false
set_option linter.unusedVariables false
theorem slQ : SlN Tryz.prog 25 36 3 48 := by
  obtain ⟨i0, hi0, hz0, hz1, hz2⟩ := info_parts (P := Tryz.prog) (e := 36) (z := .agg #[.string E0, .string E0, .string E0]) (size := 3) (bytes := 48) (by kernel_rfl)
  exact ⟨Tryz.underlying25, ⟨i0, _, hi0, hz0, hz1, hz2, rfl⟩, by omega⟩
theorem Own.below {α : Type} {E : Enc α} {w w' : World} {B : Nat} {T : TypeId} {v : Value} {l : List α} (h : Own (E := E) w B T v l) (hb : Below w.heap.size w w') : Own (E := E) w' B T v l :=
  h.kept fun g e => hb.block g (h.lt g e).2
set_option maxHeartbeats 8000000 in
theorem told_any (A : Option Addr) (l : List Pr) (n c : Nat) (hn : l.length = n) (hm : n ≤ 1000000000) (w : World) (h : Els encP w w.heap.size A l) :
    Calls Tryz.prog 10 #[.slice A n c] w fun e w' => ∃ A' c', e = .returned (.slice A' l.length c') ∧ Own (E := encP) w' w.heap.size 36 (.slice A' l.length c') l ∧ Below w.heap.size w w' := by
  have HN := hid hn
  have HH := hid h
  have HM : Hid (n ≤ 1000000000) := hid hm
  have hn63 : n ≤ 9223372036854775807 := by omega
  clear hn h hm
  go_enter Tryz.func10, Tryz.ntmps10
  go_wp2_with fail
  go_loopw [3, 4] (fun v i wr => ∃ (A' : Option Addr) (c' k : Nat) (out : List Pr), v = .slice A' out.length c' ∧ i = .int .i64 (k : Int) ∧ k ≤ n ∧ Hid (out = l.take k) ∧ Hid (Own (E := encP) wr w.heap.size 36 (.slice A' out.length c') out) ∧ Hid (Below w.heap.size w wr)) (fun _ i _ => n - (intOf i).toNat)
  case atStart => exact ⟨none, 0, 0, [], rfl, rfl, Nat.zero_le _, hid rfl, hid (Own.nil _ _ _), hid (Below.refl _ _)⟩
  case round =>
    obtain ⟨A', c', k, out, rfl, rfl, hk, HOU, HOW, HB⟩ := hrel
    by_cases hlt : k < n
    · obtain ⟨⟨⟨o, nm⟩, who⟩, hx⟩ : ∃ x, l[k]? = some x := ⟨_, List.getElem?_eq_getElem (by rw [HN.out]; exact hlt)⟩
      have hel := HH.out.below HB.out
      obtain ⟨ad, aj, rfl, hab, ea, hbj, a0, ai⟩ := hel.get hx
      have a0 := a0 _ rfl
      have a1 := ai 1 _ (by omega) rfl
      have a2 := ai 2 _ (by omega) rfl
      have ea : ad.add (k * 3) = aj := ea
      have hk0 : (0 : Int) ≤ (k : Int) := Int.natCast_nonneg _
      have hk1 : (k : Int) < (n : Int) := by omega
      have HX := hid hx
      have hol : out.length = k := by rw [HOU.out, List.length_take, HN.out]; omega
      have hlen : out.length ≤ 1000000000000 := by have := HM.out; omega
      have hbs : w.heap.size ≤ wr.heap.size := HB.out.size
      have HO2 := hid (HOW.out.alloc (.cells #[.string o, .string nm, .string who] 36)).drew
      have HRD := hid (reads_newd wr #[.string o, .string nm, .string who] 36 (0, 0))
      have HJB : Hid (aj.block < w.heap.size) := hid (by rw [hbj]; exact hab)
      have HS0 := hid (fun (W : World) (hW : Below w.heap.size wr W) => (⟨(hW.cell (p := aj) HJB.out).trans a0, (hW.cell (p := ⟨aj.block, aj.off + 1, none⟩) HJB.out).trans a1, (hW.cell (p := ⟨aj.block, aj.off + 2, none⟩) HJB.out).trans a2⟩ : W.cell? aj = some (.string o) ∧ W.cell? ⟨aj.block, aj.off + 1, none⟩ = some (.string nm) ∧ W.cell? ⟨aj.block, aj.off + 2, none⟩ = some (.string who)))
      have bD := hid ((Below.refl w.heap.size wr).drew)
      have bA := hid (((Below.refl w.heap.size wr).alloc hbs (.cells #[.string o, .string nm, .string who] 36)).drew)
      have HBA := hid ((HB.out.alloc hbs (.cells #[.string o, .string nm, .string who] 36)).drew)
      clear hx hel hab hbj hol ai
      go_wp2_with fail
      go_region_held3 (fun w' => w'.cell? aj = some (.string o) ∧ w'.cell? ⟨aj.block, aj.off + 1, none⟩ = some (.string nm) ∧ w'.cell? ⟨aj.block, aj.off + 2, none⟩ = some (.string who))
        (first | exact HS0.out _ bD.out | exact HS0.out _ bA.out | exact HS0.out _ b5.out)
        ((first | (refine step_app1 (E := encP) (by rfl) slQ (.tmp 11) (.tmp 23) (by rfl) (B := w.heap.size) (v := .slice A' out.length c') (l := out) HO2.out (by rfl) (ad := ⟨wr.heap.size, 0, none⟩) (c := 1) ((o, nm), who) (by rfl) HRD.out hlen (by omega) (by simp; omega) ?_; intro A7 c7 w7 ho7 hg7 hl7; have B7 := hid (HBA.out.grown hg7 (by simp; omega) (fun g e => (World.ownsRow.lt HO2.out g e).1)); have b5 := hid (bA.out.grown hg7 (by simp; omega) (fun g e => (World.ownsRow.lt HO2.out g e).1)))))
      all_goals
        go_wp2_with fail
        go_roundw
        case rel => exact ⟨A7, c7, k + 1, out ++ [((o, nm), who)], by simp, by go_num, by omega, hid (by rw [HOU.out, take_snoc_of HX.out]), hid (by rw [List.length_append, List.length_singleton]; exact ho7), B7⟩
        case measure => simp [intOf]; omega
    · obtain rfl : n = k := by omega
      have e1 : out = l := by rw [HOU.out]; exact List.take_of_length_le (by rw [HN.out]; exact Nat.le_refl _)
      subst e1
      go_wp2
      go_ret
      exact ⟨A', c', rfl, HOW.out, HB.out⟩
set_option maxHeartbeats 4000000 in
theorem same_eq (A B : Option Addr) (l : List Pr) (n c d : Nat) (hn : l.length = n) (hm : n ≤ 1000000000) (w : World) (h : Els encP w w.heap.size A l) (h' : Els encP w w.heap.size B l) :
    Calls Tryz.prog 9 #[.slice A n c, .slice B n d] w fun e w' => e = .returned (.bool true) ∧ ∃ k, w' = w.drewN k := by
  have HN := hid hn
  clear hn
  go_enter Tryz.func9, Tryz.ntmps9
  go_wp2
  go_loopw [5] (fun i wr => ∃ k : Nat, k ≤ n ∧ i = .int .i64 k ∧ Hid (∃ q, wr = w.drewN q)) (fun i _ => n - (intOf i).toNat)
  case atStart => exact ⟨0, Nat.zero_le _, rfl, hid ⟨0, rfl⟩⟩
  case round =>
    obtain ⟨k, hk, rfl, hw⟩ := hrel
    have hwr : Below w.heap.size w wr := by obtain ⟨q, rfl⟩ := hw.out; exact below_drewN (Below.refl _ _) q
    by_cases hlt : k < n
    · obtain ⟨⟨⟨o, nm⟩, who⟩, hx⟩ : ∃ x, l[k]? = some x := ⟨_, List.getElem?_eq_getElem (by rw [HN.out]; exact hlt)⟩
      obtain ⟨ad, aj, rfl, -, ea, -, a0, ai⟩ := (h.below hwr).get hx
      have a0 := a0 _ rfl
      have a1 := ai 1 _ (by omega) rfl
      have a2 := ai 2 _ (by omega) rfl
      have ea : ad.add (k * 3) = aj := ea
      obtain ⟨bd, bj, rfl, -, eb, -, b0, bi⟩ := (h'.below hwr).get hx
      have b0 := b0 _ rfl
      have b1 := bi 1 _ (by omega) rfl
      have b2 := bi 2 _ (by omega) rfl
      have eb : bd.add (k * 3) = bj := eb
      have hk0 : (0 : Int) ≤ (k : Int) := Int.natCast_nonneg _
      have hk1 : (k : Int) < (n : Int) := by omega
      clear hx h h' hwr ai bi
      go_wp2_with fail
      go_quiet (fail)
      go_wp2
      go_roundw
      case rel => exact ⟨k + 1, by omega, by go_num, by
        obtain ⟨q, rfl⟩ := hw.out
        exact hid ⟨q + nq, World.drewN_drewN _ _ _⟩⟩
      case measure => simp [intOf]; omega
    · obtain rfl : k = n := by omega
      go_wp2
      go_ret
      exact ⟨rfl, hw.out⟩
end Go.Proofs.YtcligogmmjdobaaGreatDoor.Sh
/-
  A row of the call's own, read.
-/
namespace Go.Proofs.YtcligogmmjdobaaGreatDoor.Sh
open Go Go.RowKit

theorem own_els {α : Type} {E : Enc α} {w : World} {B n c : Nat} {T : TypeId} {A : Option Addr} {l : List α} (h : Own (E := E) w B T (.slice A n c) l) : Els E w w.heap.size A l := by
  obtain ⟨A', c', e, -, -, h'⟩ := h.els
  simp only [Value.slice.injEq] at e
  rw [e.1]
  exact h'
end Go.Proofs.YtcligogmmjdobaaGreatDoor.Sh
