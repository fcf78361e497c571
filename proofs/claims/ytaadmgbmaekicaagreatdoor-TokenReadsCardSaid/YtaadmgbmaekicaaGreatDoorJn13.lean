/-
  Memory of tokens: the cells of a token and of a caveat, what they say, in given blocks.
-/
import Derived.Test.YtaadmgbmaekicaaGreatDoorJn11
import Derived.Test.YtaadmgbmaekicaaGreatDoorJn12
import Derived.Test.YtaadmgbmaekicaaGreatDoorJn10
set_option linter.unusedVariables false
set_option linter.unusedSimpArgs false
namespace Go.Proofs.YtaadmgbmaekicaaGreatDoor.Sh
open Go Go.RowKit

set_option linter.unusedSimpArgs false
set_option linter.unusedVariables false
def encR : Enc Ro := ⟨2, fun r => [.string r.1, .string r.2], by omega, fun _ => rfl, fun x u hu => by simp at hu; rcases hu with rfl | rfl <;> rfl⟩
def encI : Enc (Int × Int) := ⟨2, fun i => [.int .i64 i.1, .int .i64 i.2], by omega, fun _ => rfl, fun x u hu => by simp at hu; rcases hu with rfl | rfl <;> rfl⟩
/-- Bytes in given blocks. -/
def BytQ (w : World) (Q : Nat → Prop) (A : Option Addr) (l : List UInt8) : Prop :=
  0 < l.length → ∃ ad, A = some ad ∧ Q ad.block ∧ ad.block < w.heap.size ∧ ∀ j x, l[j]? = some x → w.cell? (ad.add j) = some (.int .u8 x.toNat)
theorem BytQ.byt {w : World} {Q : Nat → Prop} {A : Option Addr} {l : List UInt8} (h : BytQ w Q A l) : Byt w w.heap.size A l := fun hn => by
  obtain ⟨ad, e, _, hb, hc⟩ := h hn
  exact ⟨ad, e, hb, hc⟩
theorem BytQ.kept {w w' : World} {Q : Nat → Prop} {A : Option Addr} {l : List UInt8} (h : BytQ w Q A l) (hk : ∀ b, Q b → b < w.heap.size → w'.heap[b]? = w.heap[b]?) (hs : w.heap.size ≤ w'.heap.size) : BytQ w' Q A l := fun hn => by
  obtain ⟨ad, e, hq, hb, hc⟩ := h hn
  refine ⟨ad, e, hq, by omega, fun i u hu => ?_⟩
  rw [← hc i u hu]
  unfold World.cell?
  rw [block_add, hk _ hq hb]
theorem BytQ.imp {w : World} {Q R : Nat → Prop} {A : Option Addr} {l : List UInt8} (h : BytQ w Q A l) (hq : ∀ b, Q b → b < w.heap.size → R b) : BytQ w R A l := fun hn => by
  obtain ⟨ad, e, q, hb, hc⟩ := h hn
  exact ⟨ad, e, hq _ q hb, hb, hc⟩
theorem BytQ.below {w w' : World} {Q : Nat → Prop} {A : Option Addr} {l : List UInt8} (h : BytQ w Q A l) (hb : Below w.heap.size w w') : BytQ w' Q A l := h.kept (fun b _ hl => hb.block b hl) hb.size
theorem BytQ.grew {w w' : World} {Q X : Nat → Prop} {A : Option Addr} {l : List UInt8} (h : BytQ w Q A l) (hg : Grew w w' X) (hx : ∀ b, Q b → ¬ X b) : BytQ w' Q A l := h.kept (fun b hq hl => hg.block b hl (hx b hq)) hg.size
theorem BytQ.head {w : World} {Q : Nat → Prop} {A : Option Addr} {l : List UInt8} (h : BytQ w Q A l) (n : Nat) : BytQ w Q A (l.take n) := fun hn => by
  rw [List.length_take] at hn
  obtain ⟨ad, e, hq, hb, hc⟩ := h (by omega)
  refine ⟨ad, e, hq, hb, fun i u hu => hc i u ?_⟩
  rw [List.getElem?_take] at hu
  split at hu
  · exact hu
  · cases hu
/-- A caveat's cells. -/
structure CH where
  kind : Int
  rA : Option Addr
  rn : Nat
  rc : Nat
  til : Int
  aud : ByteArray
def CH.cells (h : CH) : List Value := [.int .i64 h.kind, .slice h.rA h.rn h.rc, .int .i64 h.til, .string h.aud]
def encC : Enc CH := ⟨4, CH.cells, by omega, fun _ => rfl, fun x u hu => by
  simp only [CH.cells, List.mem_cons, List.not_mem_nil, or_false] at hu
  rcases hu with rfl | rfl | rfl | rfl <;> rfl⟩
/-- What a caveat's cells say. -/
structure CavAt (w : World) (Q : Nat → Prop) (h : CH) (c : Cav) : Prop where
  kind : h.kind = c.kind
  til : h.til = c.til
  aud : h.aud = c.aud
  rl : c.roles.length = h.rn
  rc : h.rn ≤ h.rc
  rm : h.rc ≤ 9223372036854775807
  re : ElsQ encR w Q h.rA c.roles
theorem CavAt.kept {w w' : World} {Q : Nat → Prop} {h : CH} {c : Cav} (a : CavAt w Q h c) (hk : ∀ b, Q b → b < w.heap.size → w'.heap[b]? = w.heap[b]?) (hs : w.heap.size ≤ w'.heap.size) : CavAt w' Q h c :=
  ⟨a.kind, a.til, a.aud, a.rl, a.rc, a.rm, a.re.kept hk hs⟩
theorem CavAt.imp {w : World} {Q R : Nat → Prop} {h : CH} {c : Cav} (a : CavAt w Q h c) (hq : ∀ b, Q b → b < w.heap.size → R b) : CavAt w R h c :=
  ⟨a.kind, a.til, a.aud, a.rl, a.rc, a.rm, a.re.imp hq⟩
/-- Caveats from A on, all of it in blocks Q. -/
def CavsQ (w : World) (Q : Nat → Prop) (A : Option Addr) (cs : List Cav) : Prop :=
  ∃ hs : List CH, hs.length = cs.length ∧ ElsQ encC w Q A hs ∧ ∀ (i : Nat) (h : CH) (c : Cav), hs[i]? = some h → cs[i]? = some c → CavAt w Q h c
theorem CavsQ.nil {w : World} {Q : Nat → Prop} {A : Option Addr} : CavsQ w Q A [] := ⟨[], rfl, ElsQ.nil, fun i h l hh => by simp at hh⟩
theorem CavsQ.kept {w w' : World} {Q : Nat → Prop} {A : Option Addr} {cs : List Cav} (h : CavsQ w Q A cs) (hk : ∀ b, Q b → b < w.heap.size → w'.heap[b]? = w.heap[b]?) (hs : w.heap.size ≤ w'.heap.size) : CavsQ w' Q A cs := by
  obtain ⟨x, h1, h2, h3⟩ := h
  exact ⟨x, h1, h2.kept hk hs, fun i y c hy hc => (h3 i y c hy hc).kept hk hs⟩
theorem CavsQ.imp {w : World} {Q R : Nat → Prop} {A : Option Addr} {cs : List Cav} (h : CavsQ w Q A cs) (hq : ∀ b, Q b → b < w.heap.size → R b) : CavsQ w R A cs := by
  obtain ⟨x, h1, h2, h3⟩ := h
  exact ⟨x, h1, h2.imp hq, fun i y c hy hc => (h3 i y c hy hc).imp hq⟩
theorem CavsQ.below {w w' : World} {Q : Nat → Prop} {A : Option Addr} {cs : List Cav} (h : CavsQ w Q A cs) (hb : Below w.heap.size w w') : CavsQ w' Q A cs := h.kept (fun b _ hl => hb.block b hl) hb.size
/-- One caveat: where its cells lie, what they say. -/
theorem CavsQ.at {w : World} {Q : Nat → Prop} {A : Option Addr} {cs : List Cav} (h : CavsQ w Q A cs) {i : Nat} {c : Cav} (hi : cs[i]? = some c) : ∃ (ad aj : Addr) (x : CH), A = some ad ∧ ad.block < w.heap.size ∧ ad.add (i * 4) = aj ∧ aj.block = ad.block ∧ CavAt w Q x c ∧
    w.cell? aj = some (.int .i64 x.kind) ∧ w.cell? ⟨aj.block, aj.off + 1, none⟩ = some (.slice x.rA x.rn x.rc) ∧ w.cell? ⟨aj.block, aj.off + 2, none⟩ = some (.int .i64 x.til) ∧ w.cell? ⟨aj.block, aj.off + 3, none⟩ = some (.string x.aud) := by
  obtain ⟨hs, h1, h2, h3⟩ := h
  obtain ⟨x, hx⟩ : ∃ y, hs[i]? = some y := ⟨_, List.getElem?_eq_getElem (by rw [h1]; exact (List.getElem?_eq_some_iff.1 hi).1)⟩
  obtain ⟨ad, aj, e, hb, ea, eb, c0, cs'⟩ := h2.els.get hx
  exact ⟨ad, aj, x, e, hb, ea, eb, h3 i x c hx hi, c0 _ rfl, cs' 1 _ (by omega) rfl, cs' 2 _ (by omega) rfl, cs' 3 _ (by omega) rfl⟩
/-- A token's nine cells. -/
structure TH where
  d : Int
  e : Int
  n : Int
  who : ByteArray
  rA : Option Addr
  rn : Nat
  rc : Nat
  til : Int
  sA : Option Addr
  sn : Nat
  sc : Nat
  cA : Option Addr
  cn : Nat
  cc : Nat
  tA : Option Addr
  tn : Nat
  tc : Nat
def TH.cells (h : TH) : List Value := [.int .i64 h.d, .int .i64 h.e, .int .i64 h.n, .string h.who, .slice h.rA h.rn h.rc, .int .i64 h.til, .slice h.sA h.sn h.sc, .slice h.cA h.cn h.cc, .slice h.tA h.tn h.tc]
/-- What a token's cells say. -/
structure TokAt (w : World) (Q : Nat → Prop) (h : TH) (t : Tok) : Prop where
  d : h.d = t.d
  e : h.e = t.e
  n : h.n = t.n
  who : h.who = t.who
  til : h.til = t.til
  rl : t.roles.length = h.rn
  rc : h.rn ≤ h.rc
  rm : h.rc ≤ 9223372036854775807
  re : ElsQ encR w Q h.rA t.roles
  sl : t.sup.length = h.sn
  sc : h.sn ≤ h.sc
  sm : h.sc ≤ 9223372036854775807
  se : ElsQ encI w Q h.sA t.sup
  cl : t.cavs.length = h.cn
  cc : h.cn ≤ h.cc
  cm : h.cc ≤ 9223372036854775807
  ce : CavsQ w Q h.cA t.cavs
  tl : t.tag.length = h.tn
  tc : h.tn ≤ h.tc
  tm : h.tc ≤ 9223372036854775807
  te : BytQ w Q h.tA t.tag
theorem TokAt.kept {w w' : World} {Q : Nat → Prop} {h : TH} {t : Tok} (a : TokAt w Q h t) (hk : ∀ b, Q b → b < w.heap.size → w'.heap[b]? = w.heap[b]?) (hs : w.heap.size ≤ w'.heap.size) : TokAt w' Q h t :=
  ⟨a.d, a.e, a.n, a.who, a.til, a.rl, a.rc, a.rm, a.re.kept hk hs, a.sl, a.sc, a.sm, a.se.kept hk hs, a.cl, a.cc, a.cm, a.ce.kept hk hs, a.tl, a.tc, a.tm, a.te.kept hk hs⟩
theorem TokAt.imp {w : World} {Q R : Nat → Prop} {h : TH} {t : Tok} (a : TokAt w Q h t) (hq : ∀ b, Q b → b < w.heap.size → R b) : TokAt w R h t :=
  ⟨a.d, a.e, a.n, a.who, a.til, a.rl, a.rc, a.rm, a.re.imp hq, a.sl, a.sc, a.sm, a.se.imp hq, a.cl, a.cc, a.cm, a.ce.imp hq, a.tl, a.tc, a.tm, a.te.imp hq⟩
theorem TokAt.below {w w' : World} {Q : Nat → Prop} {h : TH} {t : Tok} (a : TokAt w Q h t) (hb : Below w.heap.size w w') : TokAt w' Q h t := a.kept (fun b _ hl => hb.block b hl) hb.size
theorem TokAt.grew {w w' : World} {Q X : Nat → Prop} {h : TH} {t : Tok} (a : TokAt w Q h t) (hg : Grew w w' X) (hx : ∀ b, Q b → ¬ X b) : TokAt w' Q h t := a.kept (fun b hq hl => hg.block b hl (hx b hq)) hg.size
/-- A token in a variable. -/
def ThAt (w : World) (g : Nat) (h : TH) : Prop := w.heap[g]? = some (.cells h.cells.toArray 27 (0, 0))
theorem ThAt.new (w : World) (h : TH) : ThAt (w.alloc (.cells h.cells.toArray 27)) w.heap.size h := heap_alloc_new w _
theorem ThAt.lt {w : World} {g : Nat} {h : TH} (a : ThAt w g h) : g < w.heap.size := (Array.getElem?_eq_some_iff.1 a).1
theorem ThAt.f {w : World} {g : Nat} {h : TH} (a : ThAt w g h) (j : Nat) : w.frozen? ⟨g, j, none⟩ = false := frozen_of_row w g j _ _ a
theorem ThAt.below {w w' : World} {g : Nat} {h : TH} (a : ThAt w g h) (hb : Below w.heap.size w w') : ThAt w' g h := (hb.block g a.lt).trans a
theorem ThAt.all {w : World} {g : Nat} {h : TH} (a : ThAt w g h) : w.cell? ⟨g, 0, none⟩ = some (.int .i64 h.d) ∧ w.cell? ⟨g, 1, none⟩ = some (.int .i64 h.e) ∧ w.cell? ⟨g, 2, none⟩ = some (.int .i64 h.n) ∧ w.cell? ⟨g, 3, none⟩ = some (.string h.who) ∧ w.cell? ⟨g, 4, none⟩ = some (.slice h.rA h.rn h.rc) ∧ w.cell? ⟨g, 5, none⟩ = some (.int .i64 h.til) ∧ w.cell? ⟨g, 6, none⟩ = some (.slice h.sA h.sn h.sc) ∧ w.cell? ⟨g, 7, none⟩ = some (.slice h.cA h.cn h.cc) ∧ w.cell? ⟨g, 8, none⟩ = some (.slice h.tA h.tn h.tc) :=
  ⟨by rw [cell_of_row _ _ 0 _ _ (0, 0) a]; rfl, by rw [cell_of_row _ _ 1 _ _ (0, 0) a]; rfl, by rw [cell_of_row _ _ 2 _ _ (0, 0) a]; rfl, by rw [cell_of_row _ _ 3 _ _ (0, 0) a]; rfl, by rw [cell_of_row _ _ 4 _ _ (0, 0) a]; rfl, by rw [cell_of_row _ _ 5 _ _ (0, 0) a]; rfl, by rw [cell_of_row _ _ 6 _ _ (0, 0) a]; rfl, by rw [cell_of_row _ _ 7 _ _ (0, 0) a]; rfl, by rw [cell_of_row _ _ 8 _ _ (0, 0) a]; rfl⟩
end Go.Proofs.YtaadmgbmaekicaaGreatDoor.Sh
/-
  The document's own: SameRoles, Rolls, Caveat, by contract.
-/
namespace Go.Proofs.YtaadmgbmaekicaaGreatDoor.Sh
open Go Go.RowKit

set_option linter.unusedSimpArgs false
set_option linter.unusedVariables false
/-- One role of a list: its two cells. -/
theorem role_at2 {w : World} {B : Nat} {A : Option Addr} {l : List Ro} (h : Els encR w B A l) {i : Nat} {r : Ro} (hi : l[i]? = some r) : ∃ ad aj : Addr, A = some ad ∧ ad.block < B ∧ ad.add (i * 2) = aj ∧ aj.block = ad.block ∧ w.cell? aj = some (.string r.1) ∧ w.cell? ⟨aj.block, aj.off + 1, none⟩ = some (.string r.2) := by
  obtain ⟨ad, aj, e, hb, ea, eb, c0, cs⟩ := h.get hi
  exact ⟨ad, aj, e, hb, ea, eb, c0 _ rfl, cs 1 _ (by omega) rfl⟩
open Classical in
set_option maxHeartbeats 4000000 in
theorem refRolls_any {w : World} (A : Option Addr) (l : List Ro) (n c : Nat) (hn : l.length = n) (hm : n ≤ 1099511627776) (h : Els encR w w.heap.size A l) :
    Calls Tryz.prog 34 #[.slice A n c] w fun e w' => e = .returned (.bool (decide (Rolls l))) ∧ Below w.heap.size w w' := by
  have HN := hid hn
  by_cases h4 : 4 < n
  · have HE : Hid (decide (Rolls l) = false) := hid (decide_eq_false fun hp => by have := hp.len; omega)
    have h1 : (4 : Int) < (n : Int) := by omega
    clear h hn
    go_enter Tryz.func34, Tryz.ntmps34
    go_wp2_with fail
    go_ret
    exact ⟨by rw [HE.out]; rfl, Below.refl _ _⟩
  have h1 : ¬ (4 : Int) < (n : Int) := by omega
  have HX := hid (fun W (hW : Below w.heap.size w W) => (h.below hW).more hW.size)
  clear h hn
  go_enter Tryz.func34, Tryz.ntmps34
  go_wp2_with fail
  go_loopw [3] (fun i wr => ∃ k : Nat, k ≤ n ∧ i = .int .i64 (k : Int) ∧ Hid (Rolls (l.take k)) ∧ Hid (Below w.heap.size w wr)) (fun i _ => n - (intOf i).toNat)
  case atStart => exact ⟨0, Nat.zero_le _, rfl, hid Rolls.nil, hid (Below.refl _ _)⟩
  case round =>
    obtain ⟨wj, hwj⟩ : ∃ x, x = wr := ⟨_, rfl⟩
    subst hwj
    obtain ⟨k, hk, rfl, HP, HB⟩ := hrel
    have hk0 : (0 : Int) ≤ (k : Int) := Int.natCast_nonneg _
    by_cases hlt : k < n
    · obtain ⟨r, hr⟩ : ∃ x, l[k]? = some x := ⟨_, List.getElem?_eq_getElem (by rw [HN.out]; exact hlt)⟩
      have HR := hid hr
      have hk1 : (k : Int) < (n : Int) := by omega
      have HT : Hid (l.take (k + 1) = l.take k ++ [r]) := hid (take_snoc_of hr)
      obtain ⟨ad, aj, hA, hb, haj, hbj, c0, c1⟩ := role_at2 (HX.out _ HB.out) hr
      subst hA
      have HCK : Hid (∀ W, Below wj.heap.size wj W → W.cell? aj = some (.string r.1) ∧ W.cell? ⟨aj.block, aj.off + 1, none⟩ = some (.string r.2)) := hid (fun W hW => by
        have hj : aj.block < wj.heap.size := by rw [hbj]; have := HB.out.size; omega
        exact ⟨(hW.cell hj).trans c0, (hW.cell (p := ⟨aj.block, aj.off + 1, none⟩) hj).trans c1⟩)
      have HRO := hid (fun W => refRole_any r.1 r.2 W)
      obtain ⟨ro, rn⟩ := r
      simp only at c0 c1 HCK HRO
      obtain ⟨b1, hb1⟩ : ∃ b, roleL ro.data.toList rn.data.toList = b := ⟨_, rfl⟩
      have HB1 := hid hb1
      rw [hb1] at HRO
      clear hr hb1 hb hbj
      cases b1
      · have HE : Hid (decide (Rolls l) = false) := hid (decide_eq_false fun hp => by
          have h2 := hp.ok _ (List.mem_of_getElem? HR.out)
          have h3 : roleL ro.data.toList rn.data.toList = true := h2
          rw [HB1.out] at h3
          cases h3)
        go_wp2_with fail
        refine (HRO.out _).mono ?_
        rintro er w2 ⟨rfl, b2⟩
        have HB2 := hid (HB.out.trans (b2.mono HB.out.size))
        clear b2 c0 c1
        go_wp2_with fail
        go_quiet (fail)
        go_wp2_with fail
        go_ret
        exact ⟨by rw [HE.out]; rfl, below_drewN HB2.out _⟩
      · rcases Nat.eq_zero_or_pos k with hk00 | hkp
        · subst hk00
          have HO : Hid (Rolls (l.take (0 + 1))) := hid (by
            rw [HT.out]
            exact HP.out.snoc (by simp) HB1.out (fun a ha => by simp at ha))
          have hg : decide ((0 : Int) < ((0 : Nat) : Int)) = false := by simp
          go_wp2_with fail
          refine (HRO.out _).mono ?_
          rintro er w2 ⟨rfl, b2⟩
          have HB2 := hid (HB.out.trans (b2.mono HB.out.size))
          clear b2 c0 c1
          go_wp2_with fail
          go_quiet (fail)
          go_wp2_with fail
          go_roundw
          case rel => exact ⟨0 + 1, by omega, by go_num, HO, hid (below_drewN HB2.out _)⟩
          case measure => simp [intOf]; omega
        · obtain ⟨j, rfl⟩ : ∃ j, k = j + 1 := ⟨k - 1, by omega⟩
          obtain ⟨p, hp⟩ : ∃ x, l[j]? = some x := ⟨_, List.getElem?_eq_getElem (by rw [HN.out]; omega)⟩
          have HPP := hid hp
          obtain ⟨ad2, ap, hA2, hb2, hap, hbp, d0, d1⟩ := role_at2 (HX.out _ HB.out) hp
          obtain rfl := Option.some.inj hA2
          have HCP : Hid (∀ W, Below wj.heap.size wj W → W.cell? ap = some (.string p.1) ∧ W.cell? ⟨ap.block, ap.off + 1, none⟩ = some (.string p.2)) := hid (fun W hW => by
            have hj : ap.block < wj.heap.size := by rw [hbp]; have := HB.out.size; omega
            exact ⟨(hW.cell hj).trans d0, (hW.cell (p := ⟨ap.block, ap.off + 1, none⟩) hj).trans d1⟩)
          have HLE := hid (fun W => refLess_any p.1 p.2 ro rn W)
          obtain ⟨po, pn⟩ := p
          simp only at HCP HLE
          obtain ⟨b2, hb2'⟩ : ∃ b, lessL po pn ro rn = b := ⟨_, rfl⟩
          have HB2' := hid hb2'
          rw [hb2'] at HLE
          have e1 : (((j + 1 : Nat) : Int)) - 1 = (j : Int) := by omega
          have e2 : IntKind.i64.wrap ((((j + 1 : Nat) : Int)) - 1) = (j : Int) := by rw [e1, IntKind.wrap_i64]; omega
          have e3 : (j : Int) + 1 - 1 = (j : Int) := by omega
          have e4 : IntKind.i64.wrap ((j : Int) + 1 - 1) = (j : Int) := by rw [e3, IntKind.wrap_i64]; omega
          have hj0 : (0 : Int) ≤ (j : Int) := Int.natCast_nonneg _
          have e5 : IntKind.i64.wrap (j : Int) = (j : Int) := by rw [IntKind.wrap_i64]; omega
          have hj2 : (j : Int) + 1 < (n : Int) := by omega
          have hj3 : (0 : Int) ≤ (j : Int) + 1 := by omega
          have hj1 : (j : Int) < (n : Int) := by omega
          have hg0 : (0 : Int) < ((j + 1 : Nat) : Int) := by omega
          have hg : decide ((0 : Int) < ((j + 1 : Nat) : Int)) = true := decide_eq_true hg0
          have HKS : Hid (∀ W, Below wj.heap.size wj W → W.cell? aj = some (.string ro) ∧ W.cell? ⟨aj.block, aj.off + 1, none⟩ = some (.string rn) ∧ W.cell? ap = some (.string po) ∧ W.cell? ⟨ap.block, ap.off + 1, none⟩ = some (.string pn)) := hid (fun W hW => ⟨(HCK.out W hW).1, (HCK.out W hW).2, (HCP.out W hW).1, (HCP.out W hW).2⟩)
          clear hp hb2 hbp d0 d1 hb2'
          cases b2
          · have HE : Hid (decide (Rolls l) = false) := hid (decide_eq_false fun hp => by
              have h2 := hp.up j _ _ HPP.out HR.out
              rw [HB2'.out] at h2
              cases h2)
            go_wp2_with fail
            refine (HRO.out _).mono ?_
            rintro er w2 ⟨rfl, q2⟩
            have HQ2 : Hid (Below wj.heap.size wj w2) := hid q2
            clear q2 c0 c1
            go_wp2_with fail
            go_region_held3 (fun W => W.cell? aj = some (.string ro) ∧ W.cell? ⟨aj.block, aj.off + 1, none⟩ = some (.string rn) ∧ W.cell? ap = some (.string po) ∧ W.cell? ⟨ap.block, ap.off + 1, none⟩ = some (.string pn))
              (first | exact HKS.out _ HQ2.out.drew | exact HKS.out _ HQ3.out)
              ((first | (go_at_call 76; (refine (HLE.out _).mono ?_); rintro er w3 ⟨rfl, q3⟩; have HQ3 : Hid (Below wj.heap.size wj w3) := hid (HQ2.out.drew.trans (q3.mono HQ2.out.drew.size)); clear q3)))
            all_goals
              go_wp2_with fail
              go_ret
              exact ⟨by rw [HE.out]; rfl, HB.out.trans (HQ3.out.mono HB.out.size)⟩
          · have HO : Hid (Rolls (l.take (j + 1 + 1))) := hid (by
              rw [HT.out]
              refine HP.out.snoc (by rw [List.length_take, HN.out]; omega) HB1.out (fun a ha => ?_)
              rw [List.length_take, HN.out, Nat.min_eq_left (by omega), Nat.add_sub_cancel, List.getElem?_take, if_pos (by omega), HPP.out] at ha
              injection ha with ha
              subst ha
              exact HB2'.out)
            go_wp2_with fail
            refine (HRO.out _).mono ?_
            rintro er w2 ⟨rfl, q2⟩
            have HQ2 : Hid (Below wj.heap.size wj w2) := hid q2
            clear q2 c0 c1
            go_wp2_with fail
            go_region_held3 (fun W => W.cell? aj = some (.string ro) ∧ W.cell? ⟨aj.block, aj.off + 1, none⟩ = some (.string rn) ∧ W.cell? ap = some (.string po) ∧ W.cell? ⟨ap.block, ap.off + 1, none⟩ = some (.string pn))
              (first | exact HKS.out _ HQ2.out.drew | exact HKS.out _ HQ3.out)
              ((first | (go_at_call 76; (refine (HLE.out _).mono ?_); rintro er w3 ⟨rfl, q3⟩; have HQ3 : Hid (Below wj.heap.size wj w3) := hid (HQ2.out.drew.trans (q3.mono HQ2.out.drew.size)); clear q3)))
            all_goals
              go_wp2_with fail
              go_roundw
              case rel => exact ⟨j + 1 + 1, by omega, by go_num, HO, hid (HB.out.trans (HQ3.out.mono HB.out.size))⟩
              case measure => simp [intOf]; omega
    · obtain rfl : k = n := by omega
      have HE : Hid (decide (Rolls l) = true) := hid (decide_eq_true (by have := HP.out; rwa [List.take_of_length_le (by rw [HN.out]; exact Nat.le_refl _)] at this))
      go_wp2_with fail
      go_ret
      exact ⟨by rw [HE.out]; rfl, HB.out⟩
end Go.Proofs.YtaadmgbmaekicaaGreatDoor.Sh
