/-
  The document's own: putRoles, PutCaveat, by contract.
-/
import Derived.Test.YtaadmgbmaekicaaGreatDoorJn15
import Derived.Test.YtaadmgbmaekicaaGreatDoorJn10
set_option linter.unusedVariables false
set_option linter.unusedSimpArgs false
namespace Go.Proofs.YtaadmgbmaekicaaGreatDoor.Sh
open Go Go.RowKit

set_option linter.unusedSimpArgs false
set_option linter.unusedVariables false
/-- The first k roles, put. -/
def rollsTo (l : List Ro) (k : Nat) : List UInt8 := (l.take k).flatMap fun r => putR r.1 r.2
theorem rollsTo_succ {l : List Ro} {k : Nat} {r : Ro} (h : l[k]? = some r) : rollsTo l (k + 1) = rollsTo l k ++ putR r.1 r.2 := by
  unfold rollsTo
  rw [take_snoc_of h, List.flatMap_append]
  simp
theorem rollsTo_all {l : List Ro} {k : Nat} (h : l.length ≤ k) : rollsTo l k = l.flatMap fun r => putR r.1 r.2 := by unfold rollsTo; rw [List.take_of_length_le h]
theorem rollsTo_le {l : List Ro} (h : ∀ r ∈ l, r.2.size ≤ 8) (k : Nat) : (rollsTo l k).length ≤ 30 * k := by
  induction k with
  | zero => simp [rollsTo]
  | succ k ih =>
    rcases Nat.lt_or_ge k l.length with h1 | h1
    · have h2 := List.getElem?_eq_getElem h1
      rw [rollsTo_succ h2, List.length_append]
      have := putR_le l[k].1 l[k].2 (h _ (List.getElem_mem h1))
      omega
    · have e : rollsTo l (k + 1) = rollsTo l k := by rw [rollsTo_all (by omega), rollsTo_all h1]
      rw [e]; omega
theorem rollsB_le {l : List Ro} (h : ∀ r ∈ l, r.2.size ≤ 8) (hl : l.length ≤ 4) : (rollsB l).length ≤ 140 := by
  unfold rollsB
  rw [List.length_append]
  have h1 := rollsTo_le h 4
  rw [rollsTo_all hl] at h1
  have := enc_len_le (n := l.length) (by omega)
  omega
theorem Puts.eq {w w' : World} {A : Option Addr} {N c : Nat} {l k : List UInt8} (h : Puts w w' (.returned (.slice A N c)) l k) : (l ++ k).length = N ∧ Byt w' w'.heap.size A (l ++ k) ∧ Below w.heap.size w w' := by
  obtain ⟨A', c', N', e, h1, h2, h3, h4⟩ := h.open
  simp only [Ending.returned.injEq, Value.slice.injEq] at e
  obtain ⟨rfl, rfl, rfl⟩ := e
  exact ⟨h1, h3, h4⟩
set_option maxHeartbeats 2000000 in
theorem refPutRoles_any (A : Option Addr) (l : List UInt8) (n c : Nat) (hn : l.length = n) (hL : n ≤ 1099511610000) (RA : Option Addr) (rs : List Ro) (rn rc : Nat) (hr : rs.length = rn) (hr4 : rn ≤ 4) (hs : ∀ r ∈ rs, r.2.size ≤ 8) (w : World) (hb : Byt w w.heap.size A l) (he : Els encR w w.heap.size RA rs) :
    Calls Tryz.prog 107 #[.slice A n c, .slice RA rn rc] w fun e w' => Puts w w' e l (rollsB rs) := by
  have HR := hid hr
  have HS := hid hs
  have HE := hid (fun W (hW : Below w.heap.size w W) => (he.below hW).more hW.size)
  have HB : Hid (rollsB rs = enc rn ++ rollsTo rs rn) := hid (by unfold rollsB; rw [hr, rollsTo_all (by omega)])
  have HN0 := hid (refNumber_any A l (rn : Int) n c hn (by omega) (by omega) (by omega) w hb)
  have HLN := hid hn
  clear hr hs he hn hb
  go_enter Tryz.func107, Tryz.ntmps107
  go_wp2_with fail
  refine HN0.out.mono ?_
  rintro er w1 hP
  rw [Int.toNat_natCast] at hP
  obtain ⟨A1, c1, N1, rfl, hl1, hN1, y1, b1⟩ := hP.open
  have P1 : Hid (Puts w w1 (.returned (.slice A1 N1 c1)) l (enc rn ++ rollsTo rs 0)) := hid (by simpa [rollsTo] using hP)
  clear hP hl1 hN1 y1 b1 HN0
  go_wp2_with fail
  go_loopw [0, 5] (fun v i wr => ∃ (k N2 c2 : Nat) (A2 : Option Addr), k ≤ rn ∧ v = .slice A2 N2 c2 ∧ i = .int .i64 (k : Int) ∧ Hid (Puts w wr (.returned (.slice A2 N2 c2)) l (enc rn ++ rollsTo rs k))) (fun _ i _ => rn - (intOf i).toNat)
  case atStart => exact ⟨0, N1, c1, A1, Nat.zero_le _, rfl, rfl, P1⟩
  case round =>
    clear P1
    obtain ⟨wj, hwj⟩ : ∃ x, x = wr := ⟨_, rfl⟩
    subst hwj
    obtain ⟨k, N2, c2, A2, hk, rfl, rfl, HP⟩ := hrel
    have hk0 : (0 : Int) ≤ (k : Int) := Int.natCast_nonneg _
    obtain ⟨hl2, y2, b2⟩ := HP.out.eq
    by_cases hlt : k < rn
    · have hk1 : (k : Int) < (rn : Int) := by omega
      obtain ⟨r, hx⟩ : ∃ r, rs[k]? = some r := ⟨_, List.getElem?_eq_getElem (by rw [HR.out]; exact hlt)⟩
      obtain ⟨ad, aj, rfl, hab, haj, hbj, z0, z1⟩ := role_at2 (HE.out wj b2) hx
      have hsz := HS.out r (List.mem_of_getElem? hx)
      have HNX : Hid (rollsTo rs (k + 1) = rollsTo rs k ++ putR r.1 r.2) := hid (rollsTo_succ hx)
      have hle : (l ++ (enc rn ++ rollsTo rs k)).length ≤ n + 200 := by
        rw [List.length_append, List.length_append, HLN.out]
        have h1 := rollsTo_le HS.out k
        have := enc_len_le (n := rn) (by omega)
        omega
      have HC := hid (refPutRole_any A2 (l ++ (enc rn ++ rollsTo rs k)) r.1 r.2 N2 c2 hl2 (by omega) (by omega) wj y2)
      obtain ⟨o, s⟩ := r
      simp only at z0 z1 HC HNX
      have haj2 : ad.add (k * 2) = aj := haj
      clear hx hab hbj hl2 y2 b2 hsz hle haj
      go_wp2_with fail
      refine HC.out.mono ?_
      rintro er w2 hP
      obtain ⟨A3, c3, N3, rfl, -, -, -, -⟩ := hP.open
      have P3 : Hid (Puts w w2 (.returned (.slice A3 N3 c3)) l (enc rn ++ rollsTo rs (k + 1))) := hid (by
        have q := HP.out.then hP
        rw [HNX.out]
        simpa only [List.append_assoc] using q)
      clear hP
      go_wp2_with fail
      go_roundw
      case rel => exact ⟨k + 1, N3, c3, A3, by omega, rfl, by go_num, P3⟩
      case measure => simp [intOf]; omega
    · obtain rfl : k = rn := by omega
      go_wp2_with fail
      go_ret
      rw [HB.out]
      exact HP.out
/-- A caveat in a variable. -/
def ChAt (w : World) (g : Nat) (h : CH) : Prop := w.heap[g]? = some (.cells h.cells.toArray 51 (0, 0))
theorem ChAt.new (w : World) (h : CH) : ChAt (w.alloc (.cells h.cells.toArray 51)) w.heap.size h := heap_alloc_new w _
theorem ChAt.lt {w : World} {g : Nat} {h : CH} (a : ChAt w g h) : g < w.heap.size := (Array.getElem?_eq_some_iff.1 a).1
theorem ChAt.f {w : World} {g : Nat} {h : CH} (a : ChAt w g h) (j : Nat) : w.frozen? ⟨g, j, none⟩ = false := frozen_of_row w g j _ _ a
theorem ChAt.below {w w' : World} {g : Nat} {h : CH} (a : ChAt w g h) (hb : Below w.heap.size w w') : ChAt w' g h := (hb.block g a.lt).trans a
theorem ChAt.all {w : World} {g : Nat} {h : CH} (a : ChAt w g h) : w.cell? ⟨g, 0, none⟩ = some (.int .i64 h.kind) ∧ w.cell? ⟨g, 1, none⟩ = some (.slice h.rA h.rn h.rc) ∧ w.cell? ⟨g, 2, none⟩ = some (.int .i64 h.til) ∧ w.cell? ⟨g, 3, none⟩ = some (.string h.aud) :=
  ⟨by rw [cell_of_row _ _ 0 _ _ (0, 0) a]; rfl, by rw [cell_of_row _ _ 1 _ _ (0, 0) a]; rfl, by rw [cell_of_row _ _ 2 _ _ (0, 0) a]; rfl, by rw [cell_of_row _ _ 3 _ _ (0, 0) a]; rfl⟩
theorem mayB_size {s : ByteArray} (h : mayB s = true) : s.size ≤ 8 := mayL_size h
set_option maxHeartbeats 2000000 in
theorem refPutCaveat_any {w : World} {Q : Nat → Prop} {ch : CH} {cv : Cav} (a : CavAt w Q ch cv) (ok : OkCav cv) (A : Option Addr) (l : List UInt8) (n c : Nat) (hn : l.length = n) (hL : n ≤ 1099511600000) (hb : Byt w w.heap.size A l) :
    Calls Tryz.prog 62 #[.slice A n c, .agg #[.int .i64 ch.kind, .slice ch.rA ch.rn ch.rc, .int .i64 ch.til, .string ch.aud]] w fun e w' => Puts w w' e l (cavB cv) := by
  obtain ⟨kd, rA, rn, rc, til, aud⟩ := ch
  obtain ⟨kd', rs, til', aud'⟩ := cv
  obtain rfl : kd = kd' := a.kind
  obtain rfl : til = til' := a.til
  obtain rfl : aud = aud' := a.aud
  have hrl := a.rl
  have HRE := hid (fun W (hW : Below w.heap.size w W) => (a.re.els.below hW).more hW.size)
  simp only at hrl HRE ⊢
  have hkd : 1 ≤ kd ∧ kd ≤ 3 := by rcases ok with h | h | h <;> (have := h.1; simp only at this; omega)
  obtain ⟨w1, hw1⟩ : ∃ y, y = w.alloc (.cells #[.int .i64 kd, .slice rA rn rc, .int .i64 til, .string aud] 51) := ⟨_, rfl⟩
  have HB1 : Hid (Below w.heap.size w w1) := hid (by rw [hw1]; exact (Below.refl _ _).alloc (Nat.le_refl _) _)
  have HX1 : Hid (ChAt w1 w.heap.size ⟨kd, rA, rn, rc, til, aud⟩) := hid (by rw [hw1]; exact ChAt.new w ⟨kd, rA, rn, rc, til, aud⟩)
  have HW1 := hid hw1
  have HC1 := hid (refNumber_any A l kd n c hn (by omega) (by omega) (by omega) w1 ((hb.below HB1.out).more HB1.out.size))
  have HLN := hid hn
  have HRL := hid hrl
  obtain ⟨c0, c1, c2, c3⟩ := HX1.out.all
  simp only at c0 c1 c2 c3
  clear a hrl hw1 hn hb
  by_cases k1 : kd = 1
  · subst k1
    have hro : Rolls rs := by
      rcases ok with h | h | h
      · exact h.2.1
      · have := h.1; simp at this
      · have := h.1; simp at this
    have hrn4 : rn ≤ 4 := by rw [← HRL.out]; exact hro.len
    have HCV : Hid (cavB ⟨1, rs, til, aud⟩ = enc (1 : Int).toNat ++ rollsB rs) := hid (by unfold cavB; rw [if_pos rfl])
    have HSZ : Hid (∀ r ∈ rs, r.2.size ≤ 8) := hid (fun r hr => (role_sizes (hro.ok r hr)).2)
    clear ok hro
    go_enter Tryz.func62, Tryz.ntmps62
    go_upto_region 1 with fail
    rw [← HW1.out]
    go_wp2_with fail
    refine HC1.out.mono ?_
    rintro er w2 hP
    obtain ⟨A2, c2', N2, rfl, hl2, hN2, y2, b2⟩ := hP.open
    have P2 := hid hP
    have HX2 := hid (HX1.out.below b2)
    have HB2 := hid (HB1.out.trans (b2.mono HB1.out.size))
    have hX : N2 ≤ n + 30 := by have := enc_len_le (n := (1 : Int).toNat) (by omega); rw [hN2, HLN.out]; omega
    have HC2 := hid (refPutRoles_any A2 _ N2 c2' hl2 (by omega) rA rs rn rc HRL.out hrn4 HSZ.out w2 y2 (HRE.out w2 HB2.out))
    clear hP hl2 hN2 y2 b2 c0 c1 c2 c3
    obtain ⟨c0, c1, c2, c3⟩ := HX2.out.all
    simp only at c0 c1 c2 c3
    go_wp2_with fail
    refine HC2.out.mono ?_
    rintro er w3 hP
    have P3 := hid (Puts.from HB1.out (P2.out.then hP))
    obtain ⟨A3, c3', N3, rfl, -, -, -, -⟩ := hP.open
    clear hP
    go_wp2_with fail
    go_ret
    rw [HCV.out]
    exact P3.out
  have h1 : (kd == 1) = false := beq_eq_false_iff_ne.2 k1
  by_cases k2 : kd = 2
  · subst k2
    have htl : 0 ≤ til ∧ til ≤ 1099511627776 := by
      rcases ok with h | h | h
      · have := h.1; simp at this
      · exact ⟨h.2.2.1, h.2.2.2.1⟩
      · have := h.1; simp at this
    have HCV : Hid (cavB ⟨2, rs, til, aud⟩ = enc (2 : Int).toNat ++ enc til.toNat) := hid (by unfold cavB; rw [if_neg (by simp), if_pos rfl])
    clear ok
    go_enter Tryz.func62, Tryz.ntmps62
    go_upto_region 1 with fail
    rw [← HW1.out]
    go_wp2_with fail
    refine HC1.out.mono ?_
    rintro er w2 hP
    obtain ⟨A2, c2', N2, rfl, hl2, hN2, y2, b2⟩ := hP.open
    have P2 := hid hP
    have HX2 := hid (HX1.out.below b2)
    have hX : N2 ≤ n + 30 := by have := enc_len_le (n := (2 : Int).toNat) (by omega); rw [hN2, HLN.out]; omega
    have HC2 := hid (refNumber_any A2 _ til N2 c2' hl2 (by omega) (by omega) (by omega) w2 y2)
    clear hP hl2 hN2 y2 b2 c0 c1 c2 c3
    obtain ⟨c0, c1, c2, c3⟩ := HX2.out.all
    simp only at c0 c1 c2 c3
    go_wp2_with fail
    refine HC2.out.mono ?_
    rintro er w3 hP
    have P3 := hid (Puts.from HB1.out (P2.out.then hP))
    obtain ⟨A3, c3', N3, rfl, -, -, -, -⟩ := hP.open
    clear hP
    go_wp2_with fail
    go_ret
    rw [HCV.out]
    exact P3.out
  have h2 : (kd == 2) = false := beq_eq_false_iff_ne.2 k2
  have has : aud.size ≤ 8 := by
    rcases ok with h | h | h
    · exact absurd h.1 k1
    · exact absurd h.1 k2
    · exact mayB_size h.2.2.2
  have HCV : Hid (cavB ⟨kd, rs, til, aud⟩ = enc kd.toNat ++ encText aud) := hid (by unfold cavB; rw [if_neg k1, if_neg k2])
  clear ok k1 k2
  go_enter Tryz.func62, Tryz.ntmps62
  go_upto_region 1 with fail
  rw [← HW1.out]
  go_wp2_with fail
  refine HC1.out.mono ?_
  rintro er w2 hP
  obtain ⟨A2, c2', N2, rfl, hl2, hN2, y2, b2⟩ := hP.open
  have P2 := hid hP
  have HX2 := hid (HX1.out.below b2)
  have hX : N2 ≤ n + 30 := by have := enc_len_le (n := kd.toNat) (by omega); rw [hN2, HLN.out]; omega
  have HC2 := hid (refText_any A2 _ aud N2 c2' hl2 (by omega) (by omega) w2 y2)
  clear hP hl2 hN2 y2 b2 c0 c1 c2 c3
  obtain ⟨c0, c1, c2, c3⟩ := HX2.out.all
  simp only at c0 c1 c2 c3
  go_wp2_with fail
  refine HC2.out.mono ?_
  rintro er w3 hP
  have P3 := hid (Puts.from HB1.out (P2.out.then hP))
  obtain ⟨A3, c3', N3, rfl, -, -, -, -⟩ := hP.open
  clear hP
  go_wp2_with fail
  go_ret
  rw [HCV.out]
  exact P3.out
end Go.Proofs.YtaadmgbmaekicaaGreatDoor.Sh
/-
  The document's own Head of a token, by contract. Written by mk_tkref5.py.
-/
namespace Go.Proofs.YtaadmgbmaekicaaGreatDoor.Sh
open Go Go.RowKit

set_option linter.unusedSimpArgs false
set_option linter.unusedVariables false
/-- The first k IDs, put. -/
def idsTo (l : List (Int × Int)) (k : Nat) : List UInt8 := (l.take k).flatMap fun x => enc x.1.toNat ++ enc x.2.toNat
theorem idsTo_succ {l : List (Int × Int)} {k : Nat} {x : Int × Int} (h : l[k]? = some x) : idsTo l (k + 1) = idsTo l k ++ (enc x.1.toNat ++ enc x.2.toNat) := by
  unfold idsTo
  rw [take_snoc_of h, List.flatMap_append]
  simp
theorem idsTo_all {l : List (Int × Int)} {k : Nat} (h : l.length ≤ k) : idsTo l k = l.flatMap fun x => enc x.1.toNat ++ enc x.2.toNat := by unfold idsTo; rw [List.take_of_length_le h]
theorem idsTo_le {l : List (Int × Int)} (h : Ids l) (k : Nat) : (idsTo l k).length ≤ 20 * k := by
  induction k with
  | zero => simp [idsTo]
  | succ k ih =>
    rcases Nat.lt_or_ge k l.length with h1 | h1
    · have h2 := List.getElem?_eq_getElem h1
      rw [idsTo_succ h2, List.length_append, List.length_append]
      obtain ⟨q1, q2, q3, q4⟩ := h.ok _ (List.getElem_mem h1)
      have := enc_len_le (n := l[k].1.toNat) (by omega)
      have := enc_len_le (n := l[k].2.toNat) (by omega)
      omega
    · have e : idsTo l (k + 1) = idsTo l k := by rw [idsTo_all (by omega), idsTo_all h1]
      rw [e]; omega
set_option maxHeartbeats 8000000 in
set_option maxRecDepth 100000 in
theorem refHead_any {w : World} {Q : Nat → Prop} {th : TH} {t : Tok} (a : TokAt w Q th t) (ok : OkTok t) (A : Option Addr) (l : List UInt8) (n c : Nat) (hn : l.length = n) (hL : n ≤ 1099511600000) (hb : Byt w w.heap.size A l) :
    Calls Tryz.prog 61 #[.slice A n c, .agg #[.int .i64 th.d, .int .i64 th.e, .int .i64 th.n, .string th.who, .slice th.rA th.rn th.rc, .int .i64 th.til, .slice th.sA th.sn th.sc, .slice th.cA th.cn th.cc, .slice th.tA th.tn th.tc]] w fun e w' => Puts w w' e l (headB t) := by
  have HRE := hid (fun W (hW : Below w.heap.size w W) => (a.re.els.below hW).more hW.size)
  have HSE := hid (fun W (hW : Below w.heap.size w W) => (a.se.els.below hW).more hW.size)
  have hrl := a.rl
  have hsl := a.sl
  obtain ⟨d, e, m, who, rA, rn, rc, til, sA, sn, sc, cA, cn, cc, tA, tn, tc⟩ := th
  obtain ⟨d', e', m', who', rs, til', sup, cavs, tag⟩ := t
  obtain rfl : d = d' := a.d
  obtain rfl : e = e' := a.e
  obtain rfl : m = m' := a.n
  obtain rfl : who = who' := a.who
  obtain rfl : til = til' := a.til
  have hd := ok.d
  have he := ok.e
  have hm := ok.n
  have ht := ok.til
  have hw := mayL_size ok.who
  have hrr := ok.roles
  have hsi := ok.sup
  have hs64 := ok.sl
  simp only at HRE HSE hrl hsl hd he hm ht hw hrr hsi hs64 ⊢
  have hrn4 : rn ≤ 4 := by rw [← hrl]; exact hrr.len
  have HSZ : Hid (∀ r ∈ rs, r.2.size ≤ 8) := hid (fun r hr => (role_sizes (hrr.ok r hr)).2)
  have HRB : Hid ((rollsB rs).length ≤ 140) := hid (rollsB_le HSZ.out hrr.len)
  have HTB : Hid ((encText who).length ≤ 17) := hid (encText_le who hw)
  have HSI := hid hsi
  have hsn : sn ≤ 64 := by omega
  have HHB : Hid (headB ⟨d, e, m, who, rs, til, sup, cavs, tag⟩ = enc d.toNat ++ enc e.toNat ++ enc m.toNat ++ encText who ++ rollsB rs ++ enc til.toNat ++ enc sn ++ idsTo sup sn) := hid (by unfold headB; rw [idsTo_all (by omega), ← hsl]; simp only [List.append_assoc])
  obtain ⟨w1, hw1⟩ : ∃ y, y = w.alloc (.cells #[.int .i64 d, .int .i64 e, .int .i64 m, .string who, .slice rA rn rc, .int .i64 til, .slice sA sn sc, .slice cA cn cc, .slice tA tn tc] 27) := ⟨_, rfl⟩
  have HB1 : Hid (Below w.heap.size w w1) := hid (by rw [hw1]; exact (Below.refl _ _).alloc (Nat.le_refl _) _)
  have HX1 : Hid (ThAt w1 w.heap.size ⟨d, e, m, who, rA, rn, rc, til, sA, sn, sc, cA, cn, cc, tA, tn, tc⟩) := hid (by rw [hw1]; exact ThAt.new w ⟨d, e, m, who, rA, rn, rc, til, sA, sn, sc, cA, cn, cc, tA, tn, tc⟩)
  have HW1 := hid hw1
  have HLN := hid hn
  have HRL := hid hrl
  have HSL := hid hsl
  have HC1 := hid (refNumber_any A l d n c hn (by omega) (by omega) (by omega) w1 ((hb.below HB1.out).more HB1.out.size))
  obtain ⟨c0, c1, c2, c3, c4, c5, c6, c7, c8⟩ := HX1.out.all
  simp only at c0 c1 c2 c3 c4 c5 c6 c7 c8
  clear a ok hrl hsl hw1 hn hb hrr hsi
  go_enter Tryz.func61, Tryz.ntmps61
  go_upto_region 1 with fail
  rw [← HW1.out]
  go_wp2_with fail
  refine HC1.out.mono ?_
  rintro er w2 hP
  obtain ⟨A2, c2', N2, rfl, hl, hN, y2, b2⟩ := hP.open
  have HL2 := hid hl
  have P2 := hid (Puts.from HB1.out hP)
  have hX2 : N2 ≤ n + 150 := by have := enc_len_le (n := d.toNat) (by omega); rw [hN, HLN.out]; omega
  have HX2 := hid (HX1.out.below b2)
  have HB2 := hid (HB1.out.trans (b2.mono HB1.out.size))
  clear hP hl hN b2 c0 c1 c2 c3 c4 c5 c6 c7 c8
  have HC2 := hid (refNumber_any A2 _ e N2 c2' HL2.out (by omega) (by omega) (by omega) w2 y2)
  clear y2
  obtain ⟨c0, c1, c2, c3, c4, c5, c6, c7, c8⟩ := HX2.out.all
  simp only at c0 c1 c2 c3 c4 c5 c6 c7 c8
  go_wp2_with fail
  refine HC2.out.mono ?_
  rintro er w3 hP
  obtain ⟨A3, c3', N3, rfl, hl, hN, y3, b3⟩ := hP.open
  have HL3 := hid hl
  have P3 := hid (P2.out.then (by simpa only [List.append_assoc] using hP))
  have hX3 : N3 ≤ N2 + 150 := by have := enc_len_le (n := e.toNat) (by omega); rw [hN, HL2.out]; omega
  have HX3 := hid (HX2.out.below b3)
  have HB3 := hid (HB2.out.trans (b3.mono HB2.out.size))
  clear hP hl hN b3 c0 c1 c2 c3 c4 c5 c6 c7 c8
  have HC3 := hid (refNumber_any A3 _ m N3 c3' HL3.out (by omega) (by omega) (by omega) w3 y3)
  clear y3
  obtain ⟨c0, c1, c2, c3, c4, c5, c6, c7, c8⟩ := HX3.out.all
  simp only at c0 c1 c2 c3 c4 c5 c6 c7 c8
  go_wp2_with fail
  refine HC3.out.mono ?_
  rintro er w4 hP
  obtain ⟨A4, c4', N4, rfl, hl, hN, y4, b4⟩ := hP.open
  have HL4 := hid hl
  have P4 := hid (P3.out.then (by simpa only [List.append_assoc] using hP))
  have hX4 : N4 ≤ N3 + 150 := by have := enc_len_le (n := m.toNat) (by omega); rw [hN, HL3.out]; omega
  have HX4 := hid (HX3.out.below b4)
  have HB4 := hid (HB3.out.trans (b4.mono HB3.out.size))
  clear hP hl hN b4 c0 c1 c2 c3 c4 c5 c6 c7 c8
  have HC4 := hid (refText_any A4 _ who N4 c4' HL4.out (by omega) (by omega) w4 y4)
  clear y4
  obtain ⟨c0, c1, c2, c3, c4, c5, c6, c7, c8⟩ := HX4.out.all
  simp only at c0 c1 c2 c3 c4 c5 c6 c7 c8
  go_wp2_with fail
  refine HC4.out.mono ?_
  rintro er w5 hP
  obtain ⟨A5, c5', N5, rfl, hl, hN, y5, b5⟩ := hP.open
  have HL5 := hid hl
  have P5 := hid (P4.out.then (by simpa only [List.append_assoc] using hP))
  have hX5 : N5 ≤ N4 + 150 := by have := HTB.out; rw [hN, HL4.out]; omega
  have HX5 := hid (HX4.out.below b5)
  have HB5 := hid (HB4.out.trans (b5.mono HB4.out.size))
  clear hP hl hN b5 c0 c1 c2 c3 c4 c5 c6 c7 c8
  have HC5 := hid (refPutRoles_any A5 _ N5 c5' HL5.out (by omega) rA rs rn rc HRL.out hrn4 HSZ.out w5 y5 (HRE.out w5 HB5.out))
  clear y5
  obtain ⟨c0, c1, c2, c3, c4, c5, c6, c7, c8⟩ := HX5.out.all
  simp only at c0 c1 c2 c3 c4 c5 c6 c7 c8
  go_wp2_with fail
  refine HC5.out.mono ?_
  rintro er w6 hP
  obtain ⟨A6, c6', N6, rfl, hl, hN, y6, b6⟩ := hP.open
  have HL6 := hid hl
  have P6 := hid (P5.out.then (by simpa only [List.append_assoc] using hP))
  have hX6 : N6 ≤ N5 + 150 := by have := HRB.out; rw [hN, HL5.out]; omega
  have HX6 := hid (HX5.out.below b6)
  have HB6 := hid (HB5.out.trans (b6.mono HB5.out.size))
  clear hP hl hN b6 c0 c1 c2 c3 c4 c5 c6 c7 c8
  have HC6 := hid (refNumber_any A6 _ til N6 c6' HL6.out (by omega) (by omega) (by omega) w6 y6)
  clear y6
  obtain ⟨c0, c1, c2, c3, c4, c5, c6, c7, c8⟩ := HX6.out.all
  simp only at c0 c1 c2 c3 c4 c5 c6 c7 c8
  go_wp2_with fail
  refine HC6.out.mono ?_
  rintro er w7 hP
  obtain ⟨A7, c7', N7, rfl, hl, hN, y7, b7⟩ := hP.open
  have HL7 := hid hl
  have P7 := hid (P6.out.then (by simpa only [List.append_assoc] using hP))
  have hX7 : N7 ≤ N6 + 150 := by have := enc_len_le (n := til.toNat) (by omega); rw [hN, HL6.out]; omega
  have HX7 := hid (HX6.out.below b7)
  have HB7 := hid (HB6.out.trans (b7.mono HB6.out.size))
  clear hP hl hN b7 c0 c1 c2 c3 c4 c5 c6 c7 c8
  have HC7 := hid (refNumber_any A7 _ (sn : Int) N7 c7' HL7.out (by omega) (by omega) (by omega) w7 y7)
  clear y7
  obtain ⟨c0, c1, c2, c3, c4, c5, c6, c7, c8⟩ := HX7.out.all
  simp only at c0 c1 c2 c3 c4 c5 c6 c7 c8
  go_wp2_with fail
  refine HC7.out.mono ?_
  rintro er w8 hP
  rw [Int.toNat_natCast] at hP
  obtain ⟨A8, c8', N8, rfl, hl, hN, y8, b8⟩ := hP.open
  have HL8 := hid hl
  have P8 := hid (P7.out.then (by simpa only [List.append_assoc] using hP))
  have hX8 : N8 ≤ N7 + 150 := by have := enc_len_le (n := sn) (by omega); rw [hN, HL7.out]; omega
  have HX8 := hid (HX7.out.below b8)
  have HB8 := hid (HB7.out.trans (b8.mono HB7.out.size))
  clear hP hl hN b8 c0 c1 c2 c3 c4 c5 c6 c7 c8
  have PL : Hid (Puts w w8 (.returned (.slice A8 N8 c8')) l (enc d.toNat ++ enc e.toNat ++ enc m.toNat ++ encText who ++ rollsB rs ++ enc til.toNat ++ enc sn ++ idsTo sup 0)) := hid (by
    have q := P8.out
    simpa [idsTo, List.append_assoc] using q)
  have HNB : Hid (N8 ≤ n + 1100) := hid (by omega)
  have HH8 : Hid (Below w8.heap.size w8 w8) := hid (Below.refl _ _)
  obtain ⟨K, hK⟩ : ∃ K, enc d.toNat ++ enc e.toNat ++ enc m.toNat ++ encText who ++ rollsB rs ++ enc til.toNat ++ enc sn = K := ⟨_, rfl⟩
  rw [hK] at PL HHB
  have HKL : Hid ((l ++ K).length ≤ n + 1100) := hid (by
    have h1 := PL.out.eq.1
    simp [idsTo] at h1
    rw [List.length_append]
    omega)
  clear hK P2 P3 P4 P5 P6 P7 P8 HL2 HL3 HL4 HL5 HL6 HL7 HL8 HC1 HC2 HC3 HC4 HC5 HC6 HC7 HX1 HX2 HX3 HX4 HX5 HX6 HX7 HB2 HB3 HB4 HB5 HB6 HB7 hX2 hX3 hX4 hX5 hX6 hX7 hX8 y8 HRE HRL HSZ HRB HTB
  obtain ⟨c0, c1, c2, c3, c4, c5, c6, c7, c8⟩ := HX8.out.all
  simp only at c0 c1 c2 c3 c4 c5 c6 c7 c8
  go_wp2_with fail
  go_loopw [0, 5] (fun v i wr => ∃ (k N2 c2 : Nat) (A2 : Option Addr), k ≤ sn ∧ v = .slice A2 N2 c2 ∧ i = .int .i64 (k : Int) ∧ Hid (Puts w wr (.returned (.slice A2 N2 c2)) l (K ++ idsTo sup k)) ∧ Hid (Below w8.heap.size w8 wr)) (fun _ i _ => sn - (intOf i).toNat)
  case atStart => exact ⟨0, N8, c8', A8, Nat.zero_le _, rfl, rfl, PL, HH8⟩
  case round =>
    clear PL HH8 c0 c1 c2 c3 c4 c5 c6 c7 c8
    obtain ⟨wj, hwj⟩ : ∃ x, x = wr := ⟨_, rfl⟩
    subst hwj
    obtain ⟨k, N2, c2', A2, hk, rfl, rfl, HP, HBJ⟩ := hrel
    have hk0 : (0 : Int) ≤ (k : Int) := Int.natCast_nonneg _
    have HXJ := hid (HX8.out.below HBJ.out)
    obtain ⟨c0, c1, c2, c3, c4, c5, c6, c7, c8⟩ := HXJ.out.all
    simp only at c0 c1 c2 c3 c4 c5 c6 c7 c8
    obtain ⟨hl2, y2, b2⟩ := HP.out.eq
    by_cases hlt : k < sn
    · have hk1 : (k : Int) < (sn : Int) := by omega
      obtain ⟨⟨di, qi⟩, hx⟩ : ∃ r, sup[k]? = some r := ⟨_, List.getElem?_eq_getElem (by rw [HSL.out]; exact hlt)⟩
      obtain ⟨ad, aj, hA, hab, haj, hbj, z0, z1⟩ := id_at2 (HSE.out wj b2) hx
      subst hA
      obtain ⟨i1, i2, i3, i4⟩ := HSI.out.ok _ (List.mem_of_getElem? hx)
      have HNX : Hid (idsTo sup (k + 1) = idsTo sup k ++ (enc di.toNat ++ enc qi.toNat)) := hid (idsTo_succ hx)
      have hle : N2 ≤ n + 3000 := by
        have h1 := idsTo_le HSI.out k
        have h2 := HKL.out
        rw [← List.append_assoc, List.length_append] at hl2
        omega
      simp only at z0 z1 i1 i2 i3 i4
      have HC := hid (refNumber_any A2 (l ++ (K ++ idsTo sup k)) di N2 c2' hl2 (by omega) (by omega) (by omega) wj y2)
      have HZ : Hid (∀ W, Below wj.heap.size wj W → W.cell? ⟨aj.block, aj.off + 1, none⟩ = some (.int .i64 qi)) := hid (fun W hW => (hW.cell (p := ⟨aj.block, aj.off + 1, none⟩) (by rw [hbj]; exact hab)).trans z1)
      have haj2 : ad.add (k * 2) = aj := haj
      clear hx hab hbj y2 haj
      go_wp2_with fail
      refine HC.out.mono ?_
      rintro er w9 hP
      obtain ⟨A3, c3', N3, rfl, hl3, hN3, y3, b3⟩ := hP.open
      have HX9 := hid (HXJ.out.below b3)
      have z1' := HZ.out w9 b3
      have hX3 : N3 ≤ N2 + 10 := by have := enc_len_le (n := di.toNat) (by omega); rw [hN3, hl2]; omega
      have HC2 := hid (refNumber_any A3 _ qi N3 c3' hl3 (by omega) (by omega) (by omega) w9 y3)
      have P9 := hid hP
      have HB9 := hid (HBJ.out.trans (b3.mono HBJ.out.size))
      clear hP hl3 hN3 y3 b3 z0 z1 c0 c1 c2 c3 c4 c5 c6 c7 c8 hl2 b2
      obtain ⟨c0, c1, c2, c3, c4, c5, c6, c7, c8⟩ := HX9.out.all
      simp only at c0 c1 c2 c3 c4 c5 c6 c7 c8
      go_wp2_with fail
      refine HC2.out.mono ?_
      rintro er w10 hP
      obtain ⟨A4, c4', N4, rfl, -, -, -, b4⟩ := hP.open
      have HB10 := hid (HB9.out.trans (b4.mono HB9.out.size))
      have P10 : Hid (Puts w w10 (.returned (.slice A4 N4 c4')) l (K ++ idsTo sup (k + 1))) := hid (by
        have q := HP.out.then (P9.out.then hP)
        rw [HNX.out]
        simpa only [List.append_assoc] using q)
      clear hP b4
      go_wp2_with fail
      go_roundw
      case rel => exact ⟨k + 1, N4, c4', A4, by omega, rfl, by go_num, P10, HB10⟩
      case measure => simp [intOf]; omega
    · obtain rfl : k = sn := by omega
      go_wp2_with fail
      go_ret
      rw [HHB.out]
      exact HP.out
end Go.Proofs.YtaadmgbmaekicaaGreatDoor.Sh
