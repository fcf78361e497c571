/-
  The program's All, by contract.
-/
import Derived.Test.YtcligogmmjdobaaGreatDoorJp35
set_option linter.unusedVariables false
set_option linter.unusedSimpArgs false
namespace Go.Proofs.YtcligogmmjdobaaGreatDoor.Sh
open Go Go.RowKit
open Go.Maps (Keyed)

set_option linter.unusedSimpArgs false
set_option linter.unusedVariables false
/-- Where a walk over all names stands: lst has just what is said of those that are done. -/
structure Gath (out : List Crd) (lst : List Pr) (left : Lit → Bool) : Prop where
  nd : lst.Nodup
  mem : ∀ p, p ∈ lst ↔ Imp (· ∈ out) p ∧ left (ks p.2) = false
theorem Gath.step {out : List Crd} {lst new : List Pr} {left : Lit → Bool} {x : ByteArray} (h : Gath out lst left) (hx : left (ks x) = true) (hn : new.Nodup) (hm : ∀ p, p ∈ new ↔ Imp (· ∈ out) p ∧ p.2 = x) (hok : ∀ p, Imp (· ∈ out) p → okB p.2) (hox : okB x) :
    Gath out (lst ++ new) (fun z => left z && !z.sameKey (ks x)) := by
  have hkey : WideAt.IsKeyLit (ks x) := lawS.key (keyS hox)
  refine ⟨List.nodup_append.2 ⟨h.nd, hn, fun a ha b hb e => ?_⟩, fun p => ?_⟩
  · subst e
    have h1 := ((h.mem a).1 ha).2
    have h2 := ((hm a).1 hb).2
    rw [h2, hx] at h1
    cases h1
  · rw [List.mem_append, h.mem, hm]
    by_cases e : p.2 = x
    · rw [e]
      have : (ks x).sameKey (ks x) = true := WideAt.sameKey_self hkey
      simp [hx, this, e]
    · constructor
      · rintro (⟨h1, h2⟩ | ⟨_, h2⟩)
        · exact ⟨h1, by simp [h2]⟩
        · exact absurd h2 e
      · rintro ⟨h1, h2⟩
        have : (ks p.2).sameKey (ks x) = false := Maps.sameKey_ne fun e' => e (ks_inj _ _ (hok p h1) hox e')
        simp [this] at h2
        exact .inl ⟨h1, h2⟩
theorem gath_len {out : List Crd} {lst : List Pr} {left : Lit → Bool} (h : Gath out lst left) : lst.length ≤ out.length * out.length := by
  rw [← uni_length]
  exact nodup_length h.nd fun p hp => imp_uni ((h.mem p).1 hp).1
/-- Where the walk over what is known stands. -/
structure Part (kn new : List Pr) (left : Lit → Bool) : Prop where
  nd : new.Nodup
  mem : ∀ p, p ∈ new ↔ p ∈ kn ∧ left (kp p) = false
theorem Part.step {kn new : List Pr} {left : Lit → Bool} {x : Pr} (h : Part kn new left) (hx : left (kp x) = true) (hk : x ∈ kn) (hok : ∀ p ∈ kn, okP p) : Part kn (new ++ [x]) (fun z => left z && !z.sameKey (kp x)) := by
  have hkey : WideAt.IsKeyLit (kp x) := lawP.key (keyP (hok x hk))
  refine ⟨List.nodup_append.2 ⟨h.nd, by simp, fun a ha b hb e => ?_⟩, fun p => ?_⟩
  · rw [List.mem_singleton.1 hb] at e
    subst e
    rw [((h.mem a).1 ha).2] at hx
    cases hx
  · rw [List.mem_append, h.mem, List.mem_singleton]
    by_cases e : p = x
    · subst e
      have : (kp p).sameKey (kp p) = true := WideAt.sameKey_self hkey
      simp [hx, this, hk]
    · constructor
      · rintro (⟨h1, h2⟩ | h2)
        · exact ⟨h1, by simp [h2]⟩
        · exact absurd h2 e
      · rintro ⟨h1, h2⟩
        have : (kp p).sameKey (kp x) = false := Maps.sameKey_ne fun e' => e (kp_inj _ _ (hok p h1) (hok x hk) e')
        simp [this] at h2
        exact .inl ⟨h1, h2⟩
theorem sorted_of {l l' : List Pr} (hp : l'.Perm l) (hn : l.Nodup) (h : l'.Pairwise fun x y => ¬ ltP y x) : SortedP l' := by
  have hn' : l'.Nodup := hp.nodup_iff.2 hn
  have := h.and hn'
  refine this.imp fun {a b} hab => ?_
  rcases lt3_three a.1.1 a.1.2 a.2 b.1.1 b.1.2 b.2 with h1 | ⟨h1, h2, h3⟩ | h1
  · exact h1
  · exact absurd (Prod.ext (Prod.ext h1 h2) h3) hab.2
  · exact absurd h1 hab.1
theorem Sol.grown {w w' : World} {B sb b0 b1 b2 b3 b4 : Nat} {vF : Value} {col : Col} {s : St} {r : Option Nat} (h : Sol w B sb b0 b1 b2 b3 b4 vF col s) (hg : w.grownBy w' r) (hr : ∀ g, r = some g → col g = none ∨ w.heap.size ≤ g) : Sol w' B sb b0 b1 b2 b3 b4 vF col s :=
  h.frame hg.size fun g c e => hg.block g (h.dom g c e) fun e' => by
    rcases hr g e'.symm with h1 | h1
    · rw [h1] at e; cases e
    · have := h.dom g c e; omega
set_option maxHeartbeats 16000000 in
theorem all_any (A : Option Addr) (all : List Crd) (n c : Nat) (hn : all.length = n) (hc : n ≤ c) (hc2 : c ≤ 9223372036854775807) (hm : n ≤ 1000) (w : World) (h : Crs w w.heap.size A all) :
    Calls Tryz.prog 11 #[.slice A n c] w fun e w' => ∃ out A' c' lst, CountsOf out all ∧ e = .returned (.slice A' lst.length c') ∧ SortedP lst ∧ (∀ p, p ∈ lst ↔ Imp (· ∈ out) p) ∧ Own (E := encP) w' w.heap.size 51 (.slice A' lst.length c') lst ∧ Below w.heap.size w w' := by
  have HST := hid (settled_any A all n c hn hc hc2 hm w h)
  have HM : Hid (all.length ≤ 1000) := hid (by omega)
  clear h hn hc hc2 hm
  go_enter Tryz.func11, Tryz.ntmps11
  go_wp2_with (first | (go_at_call 24; (refine HST.out.mono ?_); rintro er w2 ⟨sb, b0, b1, b2, b3, b4, vF, col, s, out, rfl, hcn, hs, hR, hb⟩; have c0 := hs.cell.1; (obtain ⟨D, hD⟩ := hs.giv); have ho0 := hD.map; have HS := hid hs; have HCN := hid hcn; have HR := hid hR; have HB2 := hid hb; have HD := hid hD; clear hcn hs hR hb hD) | (at_range; refine wpList_range_own _ rfl _ 54 rfl 9 111 lawS Tryz.underlying54 _ b0 s.ic D rfl ho0 ?_; intro w0 hrg0 hg0 hs0) | go_in)
  go_frame
  have hr0 : w.heap.size ≤ w2.heap.size := HB2.out.size
  have HCOL : Hid (col w2.heap.size = none) := hid (HS.out.free (Nat.le_refl _))
  have HS0 := hid (HS.out.grown hg0 (fun g e => by cases e))
  have HRG0 := hid hrg0
  have HBW0 : Hid (Below w.heap.size w w0) := hid (HB2.out.grown hg0 hr0 (fun g e => by cases e))
  have HMC : Hid (∀ c ∈ out, mayC c = true) := hid (fun c hc => (counts_mem HCN.out hc).1)
  have HG0 : Hid (Gath out [] (Maps.has D)) := hid ⟨List.Pairwise.nil, fun p => ⟨fun h => (List.not_mem_nil h).elim, fun h => by
    have h1 := (HD.out.has p.2 (imp_ok HMC.out h.1).2).2 (imp_giv HR.out.laid h.1)
    rw [h1] at h
    cases h.2⟩⟩
  clear c0 ho0 hrg0 hg0 hs0
  go_loopw [4] (fun v wr => ∃ (A' : Option Addr) (c' : Nat) (lst : List Pr) (left : Lit → Bool) (cnt b4 : Nat) (vK : Value) (cK : Col) (sK : St), v = .slice A' lst.length c' ∧ Hid (Own (E := encP) wr w.heap.size 51 (.slice A' lst.length c') lst) ∧ Hid (wr.ranges Tryz.prog 9 tokR b0 w2.heap.size s.ic D left cnt) ∧ Hid (Sol wr w.heap.size sb b0 b1 b2 b3 b4 vK cK sK) ∧
    Hid (Ready out sK) ∧ Hid (cK w2.heap.size = none ∧ ∀ g, (Value.slice A' lst.length c').ownBlock = some g → cK g = none ∧ g ≠ w2.heap.size) ∧ Hid (Gath out lst left) ∧ Hid (Below w.heap.size w wr)) (fun _ wr => wr.rangeLeft b0 w2.heap.size)
  case atStart => exact ⟨none, 0, [], _, _, b4, vF, col, s, rfl, hid (Own.nil _ _ _), HRG0, HS0, HR, hid ⟨HCOL.out, fun g e => by cases e⟩, HG0, HBW0⟩
  case round =>
    obtain ⟨A', c', lst, left, cnt, b4, vK, cK, sK, rfl, HOW, HRG, HSK, HRK, HCK, HGA, HBW⟩ := hrel
    obtain ⟨wo, hwo⟩ : ∃ x, x = wr := ⟨_, rfl⟩
    subst hwo
    have hrg := HRG.out
    go_wp2_with (first | (at_next; refine wpList_next_key rfl _ rfl lawS ks (fun x => .string x) okB (fun x hx => keyS hx) HD.out.keys rfl hrg ?_ ?_) | go_in)
    · intro hl0
      have hlen := gath_len HGA.out
      have hll : out.length * out.length ≤ 1000 * 1000 := Nat.mul_le_mul HRK.out.len HRK.out.len
      have HSO := hid (sortP_any HOW.out (by omega))
      have HL0 := hid hl0
      clear hlen hll hl0 hrg
      go_wp2_with (go_at_call 26; (refine HSO.out.mono ?_); rintro er w5 ⟨rfl, lst', hp5, hs5, ho5, hb5⟩)
      go_ret
      have hpl := hp5.length_eq
      refine ⟨out, A', c', lst', HCN.out, by rw [hpl]; rfl, sorted_of hp5 HGA.out.nd hs5, fun p => by rw [hp5.mem_iff, HGA.out.mem]; simp [HL0.out], by rw [hpl]; exact ho5, ?_⟩
      have hlt := HOW.out.lt
      exact HBW.out.trans ⟨hb5.os, hb5.tape, hb5.output, hb5.size, fun g hg => hb5.block g (Nat.lt_of_lt_of_le hg HBW.out.size) (fun e => by have := (hlt g e).1; omega)⟩
    · intro x v w1 cnt1 hox hlx hrg1 hlt hg1 hs1 hen
      have HS1 := hid (HSK.out.grown hg1 (fun g e => .inl (by cases e; exact HCK.out.1)))
      have HOW1 := hid (World.ownsRow.kept HOW.out hg1 (by
        cases ho : (Value.slice A' lst.length c').ownBlock with
        | none => exact .inl rfl
        | some g => exact .inr (fun e => (HCK.out.2 g ho).2 (Option.some.inj e))))
      have HBW1 := hid (HBW.out.grown hg1 HBW.out.size (fun g e => by cases e; exact hr0))
      have HON := hid (only_any HS1.out out HRK.out x hox)
      have HRG1 := hid hrg1
      have HLX := hid hlx
      have HLT : Hid (cnt1 < cnt) := hid hlt
      have HOX := hid hox
      have HSZ1 := hid hs1
      have HR1l : Hid (w2.heap.size < w1.heap.size) := hid hrg1.lt
      clear hrg hrg1 hg1 hlx hlt hox hs1
      go_wp2_with (first | (go_at_call 25; (refine HON.out.mono ?_); rintro er w3 ⟨rfl, b4', v3, c3, s3, h3, x3, r3, e3, -, nd3, k3⟩; have c4 := h3.cell.2.2.2.2.1; (obtain ⟨D2, ko, kh, kk, kc⟩ := h3.kn); have H3 := hid h3; have X3 := hid x3; have R3 := hid r3; have E3 := hid e3; have N3 := hid nd3; have K3 := hid k3; have KO := hid ko; have KH := hid kh; have KK := hid kk; have KC := hid kc; clear h3 x3 r3 e3 nd3 k3 kh kk kc hen) | (at_range; refine wpList_range_own _ rfl _ 58 rfl 51 91 lawP Tryz.underlying58 _ b4' s3.kn.length D2 rfl ko ?_; intro w4 hrg4 hg4 hs4) | go_in)
      go_frame
      have fr3 : c3 w2.heap.size = none := (X3.out.col _ HR1l.out).trans HCK.out.1
      have own3 : ∀ g, (Value.slice A' lst.length c').ownBlock = some g → c3 g = none ∧ g ≠ w2.heap.size := fun g e => ⟨(X3.out.col _ (World.ownsRow.lt HOW1.out g e).2).trans (HCK.out.2 g e).1, (HCK.out.2 g e).2⟩
      have HOW3 := hid (own_sub HOW1.out X3.out (fun g e c hc => by rw [(HCK.out.2 g e).1] at hc; cases hc))
      have HRG3 := hid (ranges_at HRG1.out (X3.out.block _ HRG1.out.owns.lt (fun c hc => by rw [HS1.out.b0col] at hc; cases hc; unfold Ma; omega)) (X3.out.free HR1l.out HCK.out.1))
      have HB3 := hid (HBW1.out.trans (X3.out.below HS1.out.low HBW1.out.size))
      have hr3 : w2.heap.size < w3.heap.size := Nat.lt_of_lt_of_le HR1l.out X3.out.size
      have h4 := H3.out.grown hg4 (fun g e => by cases e)
      have HOW4 : Hid (Own (E := encP) w4 w.heap.size 51 (.slice A' lst.length c') lst) := hid (World.ownsRow.kept HOW3.out hg4 (by cases (Value.slice A' lst.length c').ownBlock <;> simp))
      have HRG4 := hid (HRG3.out.kept hg4 (by simp) (by simp))
      have HB4 := hid (HB3.out.grown hg4 HB3.out.size (fun g e => by cases e))
      have HRK4 := hid hrg4
      have fr4 : c3 w3.heap.size = none := H3.out.free (Nat.le_refl _)
      have HFR : Hid (c3 w2.heap.size = none ∧ c3 w3.heap.size = none ∧ (w2.heap.size < w3.heap.size)) := hid ⟨fr3, fr4, hr3⟩
      have HOF : Hid (∀ g, (Value.slice A' lst.length c').ownBlock = some g → c3 g = none ∧ g ≠ w2.heap.size ∧ g ≠ w3.heap.size) := hid (fun g e => ⟨(own3 g e).1, (own3 g e).2, by have := (World.ownsRow.lt HOW3.out g e).2; omega⟩)
      have HS4 := hid h4
      have HP0 : Hid (Part s3.kn [] (Maps.has D2)) := hid ⟨List.Pairwise.nil, fun p => ⟨fun h => (List.not_mem_nil h).elim, fun h => by
        have := KH.out p (H3.out.sz.kn p h.1)
        rw [this] at h
        simp [h.1] at h⟩⟩
      clear fr3 own3 fr4 h4 hr3 hrg4 hg4 hs4 ko c4
      go_loopw [4] (fun v wr => ∃ (A2 : Option Addr) (c2 : Nat) (ll new : List Pr) (left2 : Lit → Bool) (cnt2 : Nat), v = .slice A2 ll.length c2 ∧ Hid (ll = lst ++ new) ∧ Hid (Own (E := encP) wr w.heap.size 51 (.slice A2 ll.length c2) ll) ∧ Hid (wr.ranges Tryz.prog 51 (unitElem (H := Unit)) b4' w3.heap.size s3.kn.length D2 left2 cnt2) ∧ Hid (wr.ranges Tryz.prog 9 tokR b0 w2.heap.size s.ic D (fun z => left z && !z.sameKey (ks x)) cnt1) ∧
        Hid (Sol wr w.heap.size sb b0 b1 b2 b3 b4' v3 c3 s3) ∧ Hid (∀ g, (Value.slice A2 ll.length c2).ownBlock = some g → c3 g = none ∧ g ≠ w2.heap.size ∧ g ≠ w3.heap.size) ∧ Hid (Part s3.kn new left2) ∧ Hid (Below w.heap.size w wr)) (fun _ wr => wr.rangeLeft b4' w3.heap.size)
      case atStart => exact ⟨A', c', lst, [], _, _, rfl, hid (by simp), HOW4, HRK4, HRG4, HS4, HOF, HP0, HB4⟩
      case round =>
        obtain ⟨A2, c2, ll, new, left2, cnt2, rfl, HLL, HO2, HK2, HG2, HSQ, HF2, HPT, HBQ⟩ := hrel
        have hk2 := HK2.out
        go_wp2_with (first | (at_next; refine wpList_next_key rfl _ rfl lawP kp pV okP (fun x hx => keyP hx) (fun z hz => (KK.out z hz).elim fun p hp => ⟨p, H3.out.sz.kn p hp.1, hp.2⟩) rfl hk2 ?_ ?_) | go_in)
        · intro hl2
          have HFIN : Hid (Gath out (lst ++ new) (fun z => left z && !z.sameKey (ks x))) := hid (HGA.out.step HLX.out HPT.out.nd (fun p => by rw [HPT.out.mem, K3.out]; simp [hl2]) (fun p hp => (imp_ok HMC.out hp).2) HOX.out)
          clear hl2 hk2
          go_wp2
          go_roundw
          case rel => exact ⟨A2, c2, ll, _, cnt1, b4', v3, c3, s3, rfl, HO2, HG2, HSQ, R3, hid ⟨HFR.out.1, fun g e => ⟨(HF2.out g e).1, (HF2.out g e).2.1⟩⟩, hid (by rw [HLL.out]; exact HFIN.out), HBQ⟩
          case measure => rw [HG2.out.left_eq, HRG.out.left_eq]; exact HLT.out
        · intro yo yn yw v2 w5 cnt5 hoy hly hrg5 hlt5 hg5 hs5 hen5
          have hyk : ((yo, yn), yw) ∈ s3.kn := by
            have h1 := ranges_has hk2 lawP hly
            rw [KH.out _ hoy] at h1
            exact of_decide_eq_true h1
          have HPT5 := hid (HPT.out.step hly hyk H3.out.sz.kn)
          have own5 := World.ownsRow.kept HO2.out hg5 (by
            cases ho : (Value.slice A2 ll.length c2).ownBlock with
            | none => exact .inl rfl
            | some g => exact .inr (fun e => (HF2.out g ho).2.2 (Option.some.inj e)))
          have sol5 := HSQ.out.grown hg5 (fun g e => .inl (by cases e; exact HFR.out.2.1))
          have rg5 := HG2.out.kept hg5 (by
            intro e
            have := HSQ.out.b0col
            rw [Option.some.inj e, HFR.out.2.1] at this
            cases this) (by
            intro e
            have := Option.some.inj e
            have := HFR.out.2.2
            omega)
          have bw5 := HBQ.out.grown hg5 HBQ.out.size (fun g e => by cases e; have := HFR.out.2.2; omega)
          have hlen2 : ll.length ≤ 1000000000000 := by
            rw [HLL.out]
            have h1 := gath_len HGA.out
            have h2 := nodup_length HPT.out.nd (fun p hp => ((HPT.out.mem p).1 hp).1)
            have h3 := nodup_length N3.out (fun p hp => imp_uni ((K3.out p).1 hp).1)
            rw [uni_length] at h3
            have hll : out.length * out.length ≤ 1000 * 1000 := Nat.mul_le_mul HRK.out.len HRK.out.len
            rw [List.length_append]
            omega
          obtain ⟨w6, hw6⟩ : ∃ w6, w6 = (w5.alloc (.cells #[.string yo, .string yn, .string yw] 51)).alloc (.cells #[.string yo, .string yn, .string yw] 51) := ⟨_, rfl⟩
          have q6 : Below w5.heap.size w5 w6 := by rw [hw6]; exact ((Below.refl _ _).alloc (Nat.le_refl _) _).alloc (by simp) _
          have g6 : w5.grownBy w6 none := ⟨q6.os, q6.tape, q6.output, q6.size, fun g hg _ => q6.block g hg⟩
          have own6 := World.ownsRow.kept own5 g6 (by cases (Value.slice A2 ll.length c2).ownBlock <;> simp)
          have HS6 := hid (sol5.grown g6 (fun g e => by cases e))
          have HR6 := hid (rg5.kept g6 (by simp) (by simp))
          have HK6 := hid (hrg5.kept g6 (by simp) (by simp))
          have HB6 := hid (bw5.grown g6 bw5.size (fun g e => by cases e))
          have HLT5 : Hid (cnt5 < cnt2) := hid hlt5
          have HO6 := hid own6
          have hz6 : w5.heap.size + 2 = w6.heap.size := by rw [hw6]; simp
          have rd6 : Reads w6 (some ⟨w5.heap.size + 1, 0, none⟩) (encP.cells ((yo, yn), yw)) := by
            have := reads_new (w5.alloc (.cells #[.string yo, .string yn, .string yw] 51)) #[.string yo, .string yn, .string yw] 51 (0, 0)
            rw [World.size_alloc] at this
            rw [hw6]; exact this
          have HRD := hid rd6
          have hbs : w.heap.size ≤ w6.heap.size := HB6.out.size
          have HCF : Hid (∀ g, w6.heap.size ≤ g → c3 g = none ∧ g ≠ w2.heap.size ∧ g ≠ w3.heap.size) := hid (fun g hg => by
            have h1 := HK6.out.lt
            have h2 := HR6.out.lt
            exact ⟨HS6.out.free hg, by omega, by omega⟩)
          unfold pV at hen5
          simp only at hen5
          clear own5 sol5 rg5 bw5 own6 g6 q6 hrg5 hg5 hs5 hlt5 hk2 hyk hly hoy rd6
          go_wp2_with (first | (at_builtin; rw [← hw6]; refine wpList_app1 (E := encP) rfl slP (.tmp 30) (.tmp 32) rfl (B := w.heap.size) (v := .slice A2 ll.length c2) (l := ll) HO6.out rfl (ad := ⟨w5.heap.size + 1, 0, none⟩) (c := 1) ((yo, yn), yw) rfl HRD.out hlen2 (by omega) hbs ?_; intro A7 c7 w7 ho7 hg7 hl7) | go_in)
          go_roundw
          case rel =>
            refine ⟨A7, c7, ll ++ [((yo, yn), yw)], new ++ [((yo, yn), yw)], _, cnt5, by simp, hid (by rw [HLL.out, List.append_assoc]), hid (by rw [List.length_append, List.length_singleton]; exact ho7), hid (HK6.out.kept hg7 ?_ ?_), hid (HR6.out.kept hg7 ?_ ?_), hid (HS6.out.grown hg7 fun g e => .inl (HF2.out g e).1), hid (fun g e => ?_), HPT5, hid (HB6.out.grown hg7 hbs fun g e => (World.ownsRow.lt HO6.out g e).1)⟩
            · intro e
              have := KC.out
              rw [(HF2.out _ e.symm).1] at this
              cases this
            · intro e
              exact (HF2.out _ e.symm).2.2 rfl
            · intro e
              have := HS6.out.b0col
              rw [(HF2.out _ e.symm).1] at this
              cases this
            · intro e
              exact (HF2.out _ e.symm).2.1 rfl
            · rw [List.length_append, List.length_singleton] at e
              rcases hl7 with h | h
              · exact HF2.out g (h ▸ e)
              · exact HCF.out g (by have := e.symm.trans h; have := Option.some.inj this; omega)
          case measure =>
            have h1 := HK6.out.kept hg7 (by
              intro e
              have := KC.out
              rw [(HF2.out _ e.symm).1] at this
              cases this) (by
              intro e
              exact (HF2.out _ e.symm).2.2 rfl)
            rw [h1.left_eq, HK2.out.left_eq]; exact HLT5.out
end Go.Proofs.YtcligogmmjdobaaGreatDoor.Sh
