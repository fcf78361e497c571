/-
  The document's own brings at any credential that may be, and its Round, by contract.
-/
import Derived.Test.YtcligogmmjdobaaGreatDoorJp42
import Derived.Test.YtcligogmmjdobaaGreatDoorJp44
import Derived.Test.YtcligogmmjdobaaGreatDoorJp45
import Derived.Test.YtcligogmmjdobaaGreatDoorJp37
set_option linter.unusedVariables false
set_option linter.unusedSimpArgs false
namespace Go.Proofs.YtcligogmmjdobaaGreatDoor.Sh
open Go Go.RowKit

set_option linter.unusedVariables false
set_option linter.unusedSimpArgs false
section
variable {α : Type} {E : Enc α} {w : World} {B : Nat} {A : Option Addr} {l : List α}
theorem Els.reads (h : Els E w B A l) : Reads w A (ev E l) := fun hn => by
  have hk := E.pos
  have : 0 < l.length := by
    rcases Nat.eq_zero_or_pos l.length with h0 | h0
    · rw [ev_length, h0, Nat.zero_mul] at hn; omega
    · exact h0
  obtain ⟨ad, e, _, hc⟩ := h this
  exact ⟨ad, e, hc⟩
theorem Els.head {hi : Nat} (h : Els E w B A l) : Els E w B A (l.take hi) := by
  intro hn
  simp only [List.length_take] at hn
  obtain ⟨ad, e, hb, hc⟩ := h (by omega)
  refine ⟨ad, e, hb, fun j x hx => hc j x ?_⟩
  rw [ev_take, List.getElem?_take] at hx
  split at hx
  · exact hx
  · cases hx
theorem ev_drop (l : List α) (n : Nat) : ev E (l.drop n) = (ev E l).drop (n * E.k) := by
  induction l generalizing n with
  | nil => simp [ev]
  | cons x t ih =>
    cases n with
    | zero => simp
    | succ n =>
      rw [List.drop_succ_cons, ev, ih, List.drop_append, E.len, List.drop_of_length_le (l := E.cells x) (by rw [E.len, Nat.add_mul]; omega), List.nil_append, show (n + 1) * E.k - E.k = n * E.k by rw [Nat.add_mul, Nat.one_mul]; omega]
/-- 's[lo:]'. -/
theorem Els.tail {lo cap : Nat} (h : Els E w B A l) (h3 : l.length ≤ cap) : Els E w B (if cap = lo then A else A.map (·.add (lo * E.k))) (l.drop lo) := by
  intro hn
  simp only [List.length_drop] at hn
  obtain ⟨ad, rfl, hb, hc⟩ := h (by omega)
  rw [if_neg (by omega)]
  refine ⟨ad.add (lo * E.k), rfl, by rw [block_add]; exact hb, fun j x hx => ?_⟩
  rw [add_add]
  refine hc _ x ?_
  rwa [ev_drop, List.getElem?_drop] at hx
/-- append of a whole list to a row of the call's own. -/
theorem wpList_appL {P : Program} {ops : Array Oper} {rest : List Oper} {o : Oper} {a : Act} {Q : Exit → Act → World → Prop} (hgd : o.guard = none) {T S : TypeId} {bytes : Nat} (hT : SlN P T S E.k bytes) (s x : Operand)
    (ho : o.op = .call { callee := .builtin .append, args := #[s, x], argTypes := #[T, T] })
    {v : Value} (hown : Own (E := E) w B S v l) (hs : a.eval s = v)
    {m c : Nat} (k : List α) (hx : a.eval x = .slice A m c) (hl : k.length = m) (hr : Reads w A (ev E k)) (hb : l.length + m ≤ 1000000000000) (hby : bytes ≤ 64) (hbase : B ≤ w.heap.size)
    (h : ∀ A' c' w', Own (E := E) w' B S (.slice A' (l.length + m) c') (l ++ k) → w.grownBy w' v.ownBlock → ((Value.slice A' (l.length + m) c').ownBlock = v.ownBlock ∨ (Value.slice A' (l.length + m) c').ownBlock = some w.heap.size) → wpList P ops Q rest (a.put o.dst (.slice A' (l.length + m) c')) w') : wpList P ops Q (o :: rest) a w := by
  have hm : (l.length + m) * bytes ≤ (l.length + m) * 64 := Nat.mul_le_mul_left _ hby
  refine wpList_appN hgd hT s x ho hown hs hx (by rw [ev_length, hl]) hr (ev_one E k) (by omega) (by unfold maxLen; omega) hbase rfl fun A' c' w' h2 h3 h4 => h A' c' w' ?_ h3 h4
  unfold Own
  rw [ev_append, List.length_append, hl]
  exact h2
end
theorem may_kd {c : Crd} (h : mayC c = true) : (c.kd = 1 ∨ c.kd = 2 ∨ c.kd = 3 ∨ c.kd = 4) ∧ 1 ≤ c.d ∧ c.d ≤ 16 := by
  unfold mayC headOk kindOk at h
  simp only [Bool.and_eq_true, decide_eq_true_eq] at h
  refine ⟨?_, h.1.1.1, h.1.1.2.1⟩
  have h2 := h.2
  by_cases h1 : c.kd = 1
  · exact .inl h1
  · rw [if_neg h1] at h2
    simp only [Bool.and_eq_true] at h2
    have h3 := h2.2
    by_cases k2 : c.kd = 2
    · exact .inr (.inl k2)
    · rw [if_neg k2] at h3
      by_cases k3 : c.kd = 3
      · exact .inr (.inr (.inl k3))
      · rw [if_neg k3] at h3
        by_cases k4 : c.kd = 4
        · exact .inr (.inr (.inr k4))
        · rw [if_neg k4] at h3; cases h3
theorem brings_any (c : Crd) (hc : mayC c = true) (A : Option Addr) (l : List Pr) (n cap : Nat) (hn : l.length = n) (hm : n ≤ 1000000) (w : World) (h : Els encP w w.heap.size A l) :
    Calls Tryz.prog 31 #[.agg c.cells.toArray, .slice A n cap] w fun e w' => ∃ A' c' out, e = .returned (.slice A' out.length c') ∧ Own (E := encP) w' w.heap.size 36 (.slice A' out.length c') out ∧ Below w.heap.size w w' ∧ (∀ p, p ∈ out ↔ Brg c l p) ∧ out.length ≤ n * n + 1 := by
  obtain ⟨hk, h0, h1⟩ := may_kd hc
  obtain ⟨d, q, nm, kd, wh, ao, an, bo, bn⟩ := c
  simp only at hk h0 h1
  rcases hk with rfl | rfl | rfl | rfl
  · exact brings_mem d q nm wh ao an bo bn (by omega) (by omega) A l n cap hn hm w h
  · exact (brings_inc d q nm wh ao an bo bn (by omega) (by omega) A l n cap hn hm w h).mono fun e w' ⟨A', c', out, e1, e2, e3, e4, e5⟩ => ⟨A', c', out, e1, e2, e3, e4, by omega⟩
  · exact (brings_lnk d q nm wh ao an bo bn (by omega) (by omega) A l n cap hn hm w h).mono fun e w' ⟨A', c', out, e1, e2, e3, e4, e5⟩ => ⟨A', c', out, e1, e2, e3, e4, by omega⟩
  · exact (brings_bth d q nm wh ao an bo bn (by omega) (by omega) A l n cap hn hm w h).mono fun e w' ⟨A', c', out, e1, e2, e3, e4, e5⟩ => ⟨A', c', out, e1, e2, e3, e4, by omega⟩
/-- In the midst of a round: by the first credentials, and by some of what one more brings. -/
def RndI (cs : List Crd) (l more out : List Pr) : Prop := ∃ new, out = l ++ new ∧ new.Nodup ∧ (∀ p ∈ new, p ∉ l) ∧ ∀ p, p ∈ out ↔ p ∈ l ∨ (∃ c ∈ cs, Brg c l p) ∨ p ∈ more
theorem RndI.start {l : List Pr} : RndI [] l [] l := ⟨[], by simp, List.nodup_nil, by simp, fun p => by simp⟩
theorem RndI.next {cs : List Crd} {l more out : List Pr} {x : Pr} (h : RndI cs l more out) : RndI cs l (more ++ [x]) (if x ∈ out then out else out ++ [x]) := by
  obtain ⟨new, rfl, h1, h2, h3⟩ := h
  by_cases hx : x ∈ l ++ new
  · rw [if_pos hx]
    refine ⟨new, rfl, h1, h2, fun p => ?_⟩
    rw [h3, List.mem_append, List.mem_singleton]
    constructor
    · rintro (h4 | h4 | h4)
      · exact .inl h4
      · exact .inr (.inl h4)
      · exact .inr (.inr (.inl h4))
    · rintro (h4 | h4 | h4 | rfl)
      · exact .inl h4
      · exact .inr (.inl h4)
      · exact .inr (.inr h4)
      · exact (h3 p).1 hx
  · rw [if_neg hx]
    simp only [List.mem_append, not_or] at hx
    refine ⟨new ++ [x], by rw [List.append_assoc], ?_, fun p hp => ?_, fun p => ?_⟩
    · exact List.nodup_append.2 ⟨h1, by simp, fun a ha b hb e => by rw [List.mem_singleton] at hb; subst hb; subst e; exact hx.2 ha⟩
    · rcases List.mem_append.1 hp with h4 | h4
      · exact h2 p h4
      · rw [List.mem_singleton] at h4; subst h4; exact hx.1
    · rw [List.mem_append, h3, List.mem_singleton, List.mem_append, List.mem_singleton]
      constructor
      · rintro ((h4 | h4 | h4) | h4)
        · exact .inl h4
        · exact .inr (.inl h4)
        · exact .inr (.inr (.inl h4))
        · exact .inr (.inr (.inr h4))
      · rintro (h4 | h4 | h4 | h4)
        · exact .inl (.inl h4)
        · exact .inl (.inr (.inl h4))
        · exact .inl (.inr (.inr h4))
        · exact .inr h4
theorem RndI.turn {cs : List Crd} {l more out : List Pr} {c : Crd} (h : RndI cs l more out) (hm : ∀ p, p ∈ more ↔ Brg c l p) : RndI (cs ++ [c]) l [] out := by
  obtain ⟨new, h0, h1, h2, h3⟩ := h
  refine ⟨new, h0, h1, h2, fun p => ?_⟩
  rw [h3, hm]
  constructor
  · rintro (h4 | ⟨c', hc', h4⟩ | h4)
    · exact .inl h4
    · exact .inr (.inl ⟨c', List.mem_append_left _ hc', h4⟩)
    · exact .inr (.inl ⟨c, by simp, h4⟩)
  · rintro (h4 | ⟨c', hc', h4⟩ | h4)
    · exact .inl h4
    · rcases List.mem_append.1 hc' with h5 | h5
      · exact .inr (.inl ⟨c', h5, h4⟩)
      · rw [List.mem_singleton] at h5; subst h5; exact .inr (.inr h4)
    · cases h4
theorem RndI.done {cs : List Crd} {l out : List Pr} (h : RndI cs l [] out) : Rnd cs l out := by
  obtain ⟨new, h0, h1, h2, h3⟩ := h
  exact ⟨new, h0, h1, h2, fun p => by rw [h3]; simp⟩
set_option maxHeartbeats 8000000 in
set_option maxRecDepth 100000 in
theorem round_any (C : Option Addr) (cs : List Crd) (nc cc : Nat) (hnc : cs.length = nc) (hmc : nc ≤ 100) (hmay : ∀ c ∈ cs, mayC c = true) (A : Option Addr) (l : List Pr) (n cap : Nat) (hn : l.length = n) (hm : n ≤ 1000) (w : World) (hc : Crs w w.heap.size C cs) (h : Els encP w w.heap.size A l) :
    Calls Tryz.prog 17 #[.slice C nc cc, .slice A n cap] w fun e w' => ∃ A' c' out, e = .returned (.slice A' out.length c') ∧ Own (E := encP) w' w.heap.size 36 (.slice A' out.length c') out ∧ Below w.heap.size w w' ∧ Rnd cs l out := by
  have HN := hid hn
  have HNC := hid hnc
  have HY := hid h
  have HC := hid hc
  have HM := hid hmay
  have HQ : Hid (n ≤ 1000 ∧ nc ≤ 100) := hid ⟨hm, hmc⟩
  have hl0 : ([] : List Pr).length + n ≤ 1000000000000 := by simp; omega
  clear hn hnc h hc hmay hm hmc
  go_enter Tryz.func17, Tryz.ntmps17
  go_wp2_with ((at_builtin; refine wpList_appL (E := encP) rfl slQ (.tmp 10) (.tmp 11) rfl (B := w.heap.size) (v := .slice none 0 0) (l := []) (Own.nil _ _ _) rfl (m := n) (c := cap) l rfl HN.out HY.out.reads hl0 (by omega) (Nat.le_refl _) ?_; intro A1 c1 w1 o1 g1 e1))
  have HO1 := hid o1
  have HB1 := hid ((Below.refl w.heap.size w).grown g1 (Nat.le_refl _) (fun k e => by cases e))
  clear o1 g1 e1
  simp only [List.length_nil, Nat.zero_add, List.nil_append] at HO1 ⊢
  go_loopw [5, 6] (fun v i wr => ∃ (A' : Option Addr) (c' j : Nat) (out : List Pr), v = .slice A' out.length c' ∧ i = .int .i64 (j : Int) ∧ j ≤ nc ∧ Hid (Own (E := encP) wr w.heap.size 36 (.slice A' out.length c') out) ∧ Hid (RndI (cs.take j) l [] out) ∧ Hid (out.length ≤ n + j * (n * n + 1)) ∧ Hid (Below w.heap.size w wr)) (fun _ i _ => nc - (intOf i).toNat)
  case atStart => exact ⟨A1, c1, 0, l, by rw [HN.out], rfl, Nat.zero_le _, hid (by rw [HN.out]; exact HO1.out), hid RndI.start, hid (by rw [HN.out]; omega), HB1⟩
  case round =>
    obtain ⟨A', c', j, out, rfl, rfl, hj, HOW, HRN, HOL, HB⟩ := hrel
    obtain ⟨wo, hwo⟩ : ∃ x, x = wr := ⟨_, rfl⟩
    subst hwo
    have hnc63 : nc ≤ 100 := HQ.out.2
    by_cases hlt : j < nc
    · obtain ⟨⟨d, q, nm, kd, wh, ao, an, bo, bn⟩, hx⟩ : ∃ x, cs[j]? = some x := ⟨_, List.getElem?_eq_getElem (by rw [HNC.out]; exact hlt)⟩
      have HX := hid hx
      obtain ⟨ad, aj, rfl, hab, ea, hbj, a0, a1, a2, a3, a4, a5, a6, a7, a8⟩ := (HC.out.below HB.out).get hx
      simp only at a0 a1 a2 a3 a4 a5 a6 a7 a8
      have hj0 : (0 : Int) ≤ (j : Int) := Int.natCast_nonneg _
      have hj1 : (j : Int) < (nc : Int) := by omega
      have HBR := hid (brings_any ⟨d, q, nm, kd, wh, ao, an, bo, bn⟩ (HM.out _ (List.mem_of_getElem? hx)) A l n cap HN.out (by have := HQ.out; omega) wo ((HY.out.below HB.out).more HB.out.size))
      unfold Crd.cells at HBR
      clear hx hab hbj
      go_wp2_with fail
      refine HBR.out.mono ?_
      rintro er w2 ⟨A2, c2, more, rfl, ho2, hb2, hm2, hl2⟩
      have HO2 := hid ho2
      have HB2 := hid hb2
      have HM2 := hid hm2
      have HL2 := hid hl2
      have HOW2 := hid (HOW.out.below hb2)
      have HBS := hid (Nat.le_trans HB.out.size hb2.size)
      have HE2 := hid (own_els ho2)
      obtain ⟨nm2, hnm2⟩ : ∃ k, more.length = k := ⟨_, rfl⟩
      have HNM := hid hnm2
      rw [hnm2]
      have hnm63 : nm2 ≤ 1000000000 := by
        have h1 := HL2.out
        have h2 := HQ.out.1
        have h3 : n * n ≤ 1000 * 1000 := Nat.mul_le_mul h2 h2
        omega
      clear HBR ho2 hb2 hm2 hl2 a0 a1 a2 a3 a4 a5 a6 a7 a8 hnm2
      go_wp2_with fail
      go_loopw [5, 8] (fun v i wr => ∃ (A3 : Option Addr) (c3 k : Nat) (out3 : List Pr), v = .slice A3 out3.length c3 ∧ i = .int .i64 (k : Int) ∧ k ≤ nm2 ∧ Hid (Own (E := encP) wr w.heap.size 36 (.slice A3 out3.length c3) out3) ∧ Hid (RndI (cs.take j) l (more.take k) out3) ∧ Hid (out3.length ≤ out.length + k) ∧ Hid (Below w.heap.size w wr) ∧ Hid (Els encP wr wr.heap.size A2 more ∧ (∀ ad, A2 = some ad → some ad.block ≠ (Value.slice A3 out3.length c3).ownBlock ∨ more = []))) (fun _ i _ => nm2 - (intOf i).toNat)
      case atStart => exact ⟨A', c', 0, out, rfl, rfl, Nat.zero_le _, HOW2, hid (by simpa using HRN.out), hid (Nat.le_refl _), hid (HB.out.trans (HB2.out.mono HB.out.size)), hid ⟨HE2.out, fun ad e => by
        rcases HO2.out.2 with ⟨h1, h2⟩ | ⟨g, cap, cur, hv, hb, hg, h3⟩
        · exact .inr (List.eq_nil_of_length_eq_zero h2)
        · refine .inl fun e2 => ?_
          simp only [Value.slice.injEq] at hv
          rw [hv.1] at e
          injection e with e
          subst e
          have := (HOW.out.lt g e2.symm).2
          omega⟩⟩
      case round =>
        obtain ⟨A3, c3, k, out3, rfl, rfl, hk, HO3, HR3, HL3, HB3, HE3⟩ := hrel
        by_cases hlt2 : k < nm2
        · obtain ⟨⟨⟨o2, n2⟩, y⟩, hx⟩ : ∃ x, more[k]? = some x := ⟨_, List.getElem?_eq_getElem (by rw [HNM.out]; exact hlt2)⟩
          have HX2 := hid hx
          obtain ⟨bd, bk, rfl, hbb, eb, hbk, b0, bi⟩ := HE3.out.1.get hx
          have b0 := b0 _ rfl
          have b1 := bi 1 _ (by omega) rfl
          have b2 := bi 2 _ (by omega) rfl
          have eb : bd.add (k * 3) = bk := eb
          have hk0 : (0 : Int) ≤ (k : Int) := Int.natCast_nonneg _
          have hk1 : (k : Int) < (nm2 : Int) := by omega
          have hlo : out3.length ≤ 1000000000 := by
            have h1 := HOL.out
            have h4 := HL3.out
            have h2 := HQ.out.1
            have h5 := HQ.out.2
            have h3 : n * n ≤ 1000 * 1000 := Nat.mul_le_mul h2 h2
            have h6 : j * (n * n + 1) ≤ 100 * (1000 * 1000 + 1) := Nat.mul_le_mul (by omega) (by omega)
            have h7 := HL2.out
            have h8 := HNM.out
            omega
          have HIN := hid (in_any A3 out3 out3.length c3 rfl hlo o2 n2 y wr (own_els HO3.out))
          have HK := hid (fun W (hW : Below wr.heap.size wr W) => (⟨(hW.cell (p := bk) (by rw [hbk]; exact hbb)).trans b0, (hW.cell (p := ⟨bk.block, bk.off + 1, none⟩) (by rw [hbk]; exact hbb)).trans b1, (hW.cell (p := ⟨bk.block, bk.off + 2, none⟩) (by rw [hbk]; exact hbb)).trans b2⟩ :
            W.cell? bk = some (.string o2) ∧ W.cell? ⟨bk.block, bk.off + 1, none⟩ = some (.string n2) ∧ W.cell? ⟨bk.block, bk.off + 2, none⟩ = some (.string y)))
          have HLO : Hid (out3.length ≤ 1000000000) := hid hlo
          have hbb4 : bd.block < wr.heap.size := hbb
          clear hx hbb hbk bi hlo
          go_wp2_with fail
          refine HIN.out.mono ?_
          rintro er w4 ⟨rfl, hb4⟩
          obtain ⟨k0, k1, k2⟩ := HK.out _ hb4
          have HB4 := hid hb4
          have HO4 := hid (HO3.out.below hb4)
          have HE4 := hid ((HE3.out.1.below hb4).more hb4.size)
          clear hb4 HIN b0 b1 b2
          have HNX := hid (HR3.out.next (x := ((o2, n2), y)))
          have HTK := hid (take_snoc_of HX2.out)
          by_cases hin : ((o2, n2), y) ∈ out3
          · rw [if_pos hin] at HNX
            rw [decide_eq_true hin]
            clear hin
            go_wp2_with fail
            go_roundw
            case rel => exact ⟨A3, c3, k + 1, out3, rfl, by go_num, by omega, HO4, hid (by rw [HTK.out]; exact HNX.out), hid (by have := HL3.out; omega), hid (HB3.out.trans (HB4.out.mono HB3.out.size)), hid ⟨HE4.out, HE3.out.2⟩⟩
            case measure => simp [intOf]; omega
          · rw [if_neg hin] at HNX
            rw [decide_eq_false hin]
            clear hin
            have hlen : out3.length ≤ 1000000000000 := by have := HLO.out; omega
            have HRD := hid (reads_new w4 #[.string o2, .string n2, .string y] 36 (0, 0))
            have HO5 := hid (HO4.out.alloc (.cells #[.string o2, .string n2, .string y] 36))
            have hbs : w.heap.size ≤ (w4.alloc (.cells #[.string o2, .string n2, .string y] 36)).heap.size := by rw [World.size_alloc]; have := HB3.out.size; have := HB4.out.size; omega
            have hmore : more ≠ [] := fun e => by have := HNM.out; rw [e] at this; simp at this; omega
            have HFAR : Hid (some bd.block ≠ (Value.slice A3 out3.length c3).ownBlock) := hid ((HE3.out.2 bd rfl).resolve_right hmore)
            have HBB : Hid (bd.block < w4.heap.size) := hid (Nat.lt_of_lt_of_le hbb4 HB4.out.size)
            have HW0 := hid (HB3.out.trans (HB4.out.mono HB3.out.size))
            have HW5 := hid (HW0.out.alloc HW0.out.size (.cells #[.string o2, .string n2, .string y] 36))
            clear hmore
            go_wp2_with ((at_builtin; refine wpList_app1 (E := encP) rfl slQ (.tmp 39) (.tmp 44) rfl (B := w.heap.size) (v := .slice A3 out3.length c3) (l := out3) HO5.out rfl (ad := ⟨w4.heap.size, 0, none⟩) (c := 1) ((o2, n2), y) rfl HRD.out hlen (by omega) hbs ?_; intro A5 c5 w5 o5 g5 e5))
            have HE6 : Hid (Els encP w5 w5.heap.size (some bd) more ∧ (∀ ad, some bd = some ad → some ad.block ≠ (Value.slice A5 (out3.length + 1) c5).ownBlock ∨ more = [])) := hid ⟨((HE4.out.below ((Below.refl w4.heap.size w4).alloc (Nat.le_refl _) (.cells #[.string o2, .string n2, .string y] 36))).keep (fun ad' e hb => by
                obtain rfl := Option.some.inj e
                exact g5.block _ (by rw [World.size_alloc]; have := HBB.out; omega) (fun e2 => HFAR.out e2))).more (by have := g5.size; rw [World.size_alloc] at this; omega), fun ad' e => by
                obtain rfl := Option.some.inj e
                refine .inl ?_
                rcases e5 with e2 | e2
                · rw [e2]; exact HFAR.out
                · rw [e2]; intro e3; injection e3 with e3; have := HBB.out; rw [World.size_alloc] at e3; omega⟩
            have HW6 := hid (HW5.out.grown g5 hbs (fun g e => (HO5.out.lt g e).1))
            have HO6 := hid o5
            clear g5 e5 o5
            go_wp2_with fail
            go_roundw
            case rel => exact ⟨A5, c5, k + 1, out3 ++ [((o2, n2), y)], by simp, by go_num, by omega, hid (by rw [List.length_append, List.length_singleton]; exact HO6.out), hid (by rw [HTK.out]; exact HNX.out), hid (by have := HL3.out; rw [List.length_append, List.length_singleton]; omega), HW6, hid (by rw [List.length_append, List.length_singleton]; exact HE6.out)⟩
            case measure => simp [intOf]; omega
        · obtain rfl : nm2 = k := by omega
          have e1 : more.take nm2 = more := List.take_of_length_le (by rw [HNM.out]; exact Nat.le_refl _)
          have HRT := HR3.out
          rw [e1] at HRT
          have HRT := hid (HRT.turn HM2.out)
          clear e1
          go_wp2
          go_roundw
          case rel => exact ⟨A3, c3, j + 1, out3, rfl, by go_num, by omega, HO3, hid (by rw [take_snoc_of HX.out]; exact HRT.out), hid (by have := HOL.out; have := HL3.out; have := HL2.out; have := HNM.out; rw [Nat.succ_mul]; omega), HB3⟩
          case measure => simp [intOf]; omega
    · obtain rfl : nc = j := by omega
      have e1 : cs.take nc = cs := List.take_of_length_le (by rw [HNC.out]; exact Nat.le_refl _)
      rw [e1] at HRN
      go_wp2
      go_ret
      exact ⟨A', c', out, rfl, HOW.out, HB.out, HRN.out.done⟩
end Go.Proofs.YtcligogmmjdobaaGreatDoor.Sh
