/-
  The search's follow, by contract.
-/
import Derived.Test.YtoajckhnneagnaaDoorJd30
import Derived.Test.YtoajckhnneagnaaDoorJd32
import Derived.Test.YtoajckhnneagnaaDoorJd17
set_option linter.unusedVariables false
set_option linter.unusedSimpArgs false
namespace Go.Proofs.YtoajckhnneagnaaDoor.Sh
open Go Go.RowKit
open Go.Maps (Keyed)

set_option linter.unusedVariables false
set_option linter.unusedSimpArgs false
theorem set_three {w : World} {g : Nat} {a b c a' b' c' : Value} {t : TypeId} (h : w.heap[g]? = some (.cells #[a, b, c] t (0, 0))) : (((w.setCell ⟨g, 0, none⟩ a').setCell ⟨g, 1, none⟩ b').setCell ⟨g, 2, none⟩ c').heap[g]? = some (.cells #[a', b', c'] t (0, 0)) := by
  rw [heap_setCell_same _ g 2 _ _ c' (heap_setCell_same _ g 1 _ _ b' (heap_setCell_same w g 0 _ _ a' h))]; rfl
set_option maxHeartbeats 32000000 in
set_option maxRecDepth 100000 in
theorem cfollow_any {L : Ly} {vF vL : Value} {col : Col} {x : Sx} {w : World} (h : Sea L w vF vL col x) (hP : ∀ i, i < 16 → L.P (i + 1) = domN i) (p : Pr) (hp : okP p) (m : Nat) (hm0 : m ≠ 0) (hm : m ≤ 1000000000)
    (HB : ∀ k, (((x.s.ask p.1).take k).foldl (Se.folO L.pe p.2 m) x.s).ic ≤ 10000000000 ∧ (((x.s.ask p.1).take k).foldl (Se.folO L.pe p.2 m) x.s).kn.length ≤ 10000000000 ∧ (((x.s.ask p.1).take k).foldl (Se.folO L.pe p.2 m) x.s).fr.length ≤ 10000000000)
    (HL : ∀ k, ((((x.s.folA L.pe p m).lnk p.1).take k).foldl (fun s r => s.add (r, p.2) m) (x.s.folA L.pe p m)).kn.length ≤ 10000000000 ∧ ((((x.s.folA L.pe p m).lnk p.1).take k).foldl (fun s r => s.add (r, p.2) m) (x.s.folA L.pe p m)).fr.length ≤ 10000000000) :
    Calls Tryd.prog 45 #[.pointer (some ⟨L.sb, 0, none⟩), .agg #[.string p.1.1, .string p.1.2, .string p.2], .int .i64 (m : Int)] w fun e w' => e = .returned (.tuple #[]) ∧ ∃ vF' col', Sea L w' vF' vL col' { x with s := x.s.follow L.pe m p } ∧ Ext Mf w w' col col' := by
  obtain ⟨⟨o, n⟩, who⟩ := p
  obtain ⟨asks, hasks⟩ : ∃ l, x.s.ask (o, n) = l := ⟨_, rfl⟩
  have eF : x.s.follow L.pe m ((o, n), who) = (((asks.foldl (Se.folO L.pe who m) x.s).lnk (o, n)).foldl (fun s r => s.add (r, who) m) (asks.foldl (Se.folO L.pe who m) x.s)) := by unfold Se.follow Se.folL Se.folA; rw [← hasks]
  obtain ⟨lnks, hlnks⟩ : ∃ l, (asks.foldl (Se.folO L.pe who m) x.s).lnk (o, n) = l := ⟨_, rfl⟩
  have eA : x.s.folA L.pe ((o, n), who) m = (asks.foldl (Se.folO L.pe who m) x.s) := by unfold Se.folA; rw [← hasks]
  rw [hlnks] at eF
  simp only [eA, hasks, hlnks] at HB HL
  have HBB := hid HB
  have HLL := hid HL
  have HEF := hid eF
  have HAK := hid hasks
  have HLN := hid hlnks
  obtain ⟨N, hN⟩ : ∃ N, asks.length = N := ⟨_, rfl⟩
  obtain ⟨NL, hNL⟩ : ∃ N, lnks.length = N := ⟨_, rfl⟩
  have HNA := hid hN
  have HNB := hid hNL
  obtain ⟨sb, hsb⟩ : ∃ sb, L.sb = sb := ⟨_, rfl⟩
  obtain ⟨b3, hb3⟩ : ∃ b3, L.b3 = b3 := ⟨_, rfl⟩
  obtain ⟨b4, hb4⟩ : ∃ b4, L.b4 = b4 := ⟨_, rfl⟩
  obtain ⟨w1, hw1⟩ : ∃ w1, w1 = w.alloc (.cells #[.string o, .string n, .string who] 58) := ⟨_, rfl⟩
  obtain ⟨gp, hgp⟩ : ∃ g, w.heap.size = g := ⟨_, rfl⟩
  have q1 : Below w.heap.size w w1 := by rw [hw1]; exact (Below.refl _ _).alloc (Nat.le_refl _) _
  have HQ1 := hid q1
  have HS1 := hid (h.below q1)
  have HP1 : Hid (PrA w1 gp o n who) := hid (by rw [hw1, ← hgp]; exact PrA.new w o n who)
  have HGP : Hid (col gp = none) := hid (h.free (by omega))
  have HOR : Hid (okR (o, n)) := hid hp.1
  have HOW : Hid (okB who) := hid hp.2
  have HP := hid hP
  have HM0 := hid hm0
  have HM : Hid (m ≤ 1000000000) := hid hm
  have HSB := hid hsb
  have HB3 := hid hb3
  have HB4 := hid hb4
  obtain ⟨vA, lkA, owA, lnA, cfA⟩ := HS1.out.ask.look lawR Tryd.underlying63 ch_z22 (k := (o, n)) HOR.out (keyR HOR.out)
  rw [HAK.out] at owA lnA
  have hNb : N ≤ 10000000000 := by have h0 := (HBB.out 0).1; change x.s.ic ≤ _ at h0; have h1 : asks.length ≤ x.s.ic := lnA; omega
  obtain ⟨A, cA, rfl, -, -, -⟩ := owA.els
  rw [hN] at lkA
  rw [HB3.out] at lkA
  have HK := hid (fun W (hW : Below w1.heap.size w1 W) => (⟨by rw [← hsb, ← hb3]; exact (HS1.out.below hW).cell.2.2.1, (HP1.out.kept hW).all.1, (HP1.out.kept hW).all.2.1, lkA W (hW.block _ (by rw [← hb3]; exact HS1.out.dom _ _ HS1.out.c3))⟩ :
    W.cell? ⟨sb, 19, none⟩ = some (.map (some b3)) ∧ W.cell? ⟨gp, 0, none⟩ = some (.string o) ∧ W.cell? ⟨gp, 1, none⟩ = some (.string n) ∧ (Instr.lookup 63 (.map (some b3)) (.agg #[.string o, .string n]) false).run Tryd.prog W = .ok (.slice A N cA) W))
  have HEA := hid (fun W c' (hW : Ext Mf w1 W col c') => (own_els (own_sub owA hW (fun g hg c e => by rw [cfA g hg] at e; cases e; unfold Mf; omega)) : Els encC W W.heap.size A asks))
  have HMC : Hid (∀ c ∈ asks, mayC c = true) := hid (fun c hc => h.sz.ask (o, n) c (by rw [hasks]; exact hc))
  simp only
  rw [hsb]
  clear h hp hP hm hm0 hsb hb3 hb4 q1 owA cfA lkA lnA eF eA HB HL hasks hlnks hN hNL
  go_enter Tryd.func45, Tryd.ntmps45
  go_wp2_with fail
  rw [← hw1]
  try rw [hgp]
  clear hw1 hgp
  obtain ⟨k1, k2, k3, k4⟩ := HK.out _ (Below.refl _ _)
  go_region_held3 (fun w' => w'.cell? ⟨sb, 19, none⟩ = some (.map (some b3)) ∧ w'.cell? ⟨gp, 0, none⟩ = some (.string o) ∧ w'.cell? ⟨gp, 1, none⟩ = some (.string n) ∧ (Instr.lookup 63 (.map (some b3)) (.agg #[.string o, .string n]) false).run Tryd.prog w' = .ok (.slice A N cA) w')
    (exact HK.out _ (Below.refl _ _).drew) (fail)
  clear k1 k2 k3 k4
  have HS2 := hid (HS1.out.below (Below.refl w1.heap.size w1).drew)
  have HX2 : Hid (Ext Mf w1 w1.drew col col) := hid (Ext.of_below Mf col (Below.refl w1.heap.size w1).drew)
  go_wp2_with fail
  go_loopw [21] (fun i wr => ∃ (k : Nat) (vFk : Value) (ck : Col), i = .int .i64 (k : Int) ∧ k ≤ N ∧ Hid (Sea L wr vFk vL ck { x with s := ((asks.take k).foldl (Se.folO L.pe who m) x.s) }) ∧ Hid (Ext Mf w1 wr col ck)) (fun i _ => N - (intOf i).toNat)
  case atStart => exact ⟨0, vF, col, rfl, Nat.zero_le _, HS2, HX2⟩
  case round =>
    obtain ⟨k, vFk, ck, rfl, hk, HSK, HXK⟩ := hrel
    by_cases hlt : k < N
    · obtain ⟨⟨d, q, nm, kd, wh, ao, an, bo, bn⟩, hx⟩ : ∃ x, asks[k]? = some x := ⟨_, List.getElem?_eq_getElem (by rw [HNA.out]; exact hlt)⟩
      obtain ⟨ad, aj, rfl, hab, ea, hbj, a0, ai⟩ := (HEA.out wr ck HXK.out).get hx
      have a0 := a0 _ rfl
      have a1 := ai 1 _ (by decide) rfl
      have a2 := ai 2 _ (by decide) rfl
      have a3 := ai 3 _ (by decide) rfl
      have a4 := ai 4 _ (by decide) rfl
      have a5 := ai 5 _ (by decide) rfl
      have a6 := ai 6 _ (by decide) rfl
      have a7 := ai 7 _ (by decide) rfl
      have a8 := ai 8 _ (by decide) rfl
      have ea : ad.add (k * 9) = aj := ea
      have hk0 : (0 : Int) ≤ (k : Int) := Int.natCast_nonneg _
      have hk1 : (k : Int) < (N : Int) := by omega
      have HX := hid hx
      have HMY := hid (HMC.out _ (List.mem_of_getElem? hx))
      obtain ⟨w3, hw3⟩ : ∃ w3, w3 = wr.alloc (.cells (Crd.cells ⟨d, q, nm, kd, wh, ao, an, bo, bn⟩).toArray 55) := ⟨_, rfl⟩
      obtain ⟨gc, hgc⟩ : ∃ g, wr.heap.size = g := ⟨_, rfl⟩
      have HQ3 : Hid (Below wr.heap.size wr w3) := hid (by rw [hw3]; exact (Below.refl _ _).alloc (Nat.le_refl _) _)
      have HC3 : Hid (CrAt w3 gc ⟨d, q, nm, kd, wh, ao, an, bo, bn⟩) := hid (by rw [hw3, ← hgc]; exact CrAt.new wr _)
      have HSk3 := hid (HSK.out.below HQ3.out)
      have HPr : PrA wr gp o n who := (HXK.out.free HP1.out.lt HGP.out).trans HP1.out
      have HP3 : Hid (PrA w3 gp o n who) := hid (HPr.kept HQ3.out)
      have HSN := hid (foldl_take_succ (Se.folO L.pe who m) x.s hx)
      have HBK := hid (HBB.out k)
      have e0 := may_head HMY.out
      clear hx hab hbj ai HPr
      unfold Crd.cells at hw3
      simp only at hw3
      obtain ⟨p0, p1, p2⟩ := HP3.out.all
      obtain ⟨f0, f1, f2, f3, f4, f5, f6, f7, f8⟩ := HC3.out.all
      by_cases hk3 : kd = 3
      · subst hk3
        have HO := hid (copn_any HSk3.out ⟨d, q, nm, 3, wh, ao, an, bo, bn⟩ HMY.out who HOW.out m HM0.out HM.out HBK.out.1 HBK.out.2.1 HBK.out.2.2)
        rw [HSB.out] at HO
        unfold Crd.cells at HO
        simp only at HO
        have eN : Se.folO L.pe who m ((asks.take k).foldl (Se.folO L.pe who m) x.s) ⟨d, q, nm, 3, wh, ao, an, bo, bn⟩ = ((asks.take k).foldl (Se.folO L.pe who m) x.s).opn L.pe ⟨d, q, nm, 3, wh, ao, an, bo, bn⟩ who m := by unfold Se.folO; rw [if_pos rfl]
        have HEN := hid eN
        clear eN e0
        go_upto_region 4 with fail
        rw [← hw3]
        try rw [hgc]
        clear hw3 hgc a0 a1 a2 a3 a4 a5 a6 a7 a8
        go_wp2_with (go_at_call 68; (refine HO.out.mono ?_); rintro er w9 ⟨rfl, vF9, c9, h9, x9⟩; have HS9 := hid h9; have HX9 := hid x9; clear h9 x9)
        go_roundw
        case rel => exact ⟨k + 1, vF9, c9, by go_num, by omega, hid (by rw [HSN.out, HEN.out]; exact HS9.out), hid (HXK.out.trans ((Ext.of_below Mf ck HQ3.out).trans HX9.out))⟩
        case measure => simp [intOf]; omega
      · have h31 : (kd == 3) = false := beq_eq_false_iff_ne.2 hk3
        obtain ⟨D, hD⟩ : ∃ D, domB d = D := ⟨_, rfl⟩
        have HR0 := hid (fun W => roleC_any ⟨d, q, nm, kd, wh, ao, an, bo, bn⟩ (by have := e0.1; omega) (by have := e0; omega) W)
        simp only at HR0
        rw [hD] at HR0
        unfold Crd.cells at HR0
        simp only at HR0
        have HRL : Hid (roleOf ⟨d, q, nm, kd, wh, ao, an, bo, bn⟩ = (D, nm)) := hid (by unfold roleOf; rw [hD])
        have HOD : Hid (okR (D, nm)) := hid ⟨by rw [← hD]; exact ok_dom d, (okC_of HMY.out).1⟩
        have HLT : Hid (gc < w3.heap.size ∧ gp < w3.heap.size) := hid ⟨HC3.out.lt, HP3.out.lt⟩
        have HKS : Hid (∀ W : World, W.heap[gc]? = some (.cells (Crd.cells ⟨d, q, nm, kd, wh, ao, an, bo, bn⟩).toArray 55 (0, 0)) → W.heap[gp]? = some (.cells #[.string o, .string n, .string who] 58 (0, 0)) → (fun w' => w'.cell? ⟨gc, 0, none⟩ = some (.int .i64 d) ∧ w'.cell? ⟨gc, 1, none⟩ = some (.int .i64 q) ∧ w'.cell? ⟨gc, 2, none⟩ = some (.string nm) ∧ w'.cell? ⟨gc, 3, none⟩ = some (.int .i64 kd) ∧ w'.cell? ⟨gc, 4, none⟩ = some (.string wh) ∧ w'.cell? ⟨gc, 5, none⟩ = some (.string ao) ∧ w'.cell? ⟨gc, 6, none⟩ = some (.string an) ∧ w'.cell? ⟨gc, 7, none⟩ = some (.string bo) ∧ w'.cell? ⟨gc, 8, none⟩ = some (.string bn) ∧ w'.cell? ⟨gp, 2, none⟩ = some (.string who)) W) := hid (fun W h1 h2 => by
          have h3 := CrAt.all (show CrAt W gc ⟨d, q, nm, kd, wh, ao, an, bo, bn⟩ from h1)
          exact ⟨h3.1, h3.2.1, h3.2.2.1, h3.2.2.2.1, h3.2.2.2.2.1, h3.2.2.2.2.2.1, h3.2.2.2.2.2.2.1, h3.2.2.2.2.2.2.2.1, h3.2.2.2.2.2.2.2.2, (PrA.all (show PrA W gp o n who from h2)).2.2⟩)
        have HC3H : Hid (w3.heap[gc]? = some (.cells (Crd.cells ⟨d, q, nm, kd, wh, ao, an, bo, bn⟩).toArray 55 (0, 0))) := hid HC3.out
        have HP3H : Hid (w3.heap[gp]? = some (.cells #[.string o, .string n, .string who] 58 (0, 0))) := hid HP3.out
        clear hD e0
        go_upto_region 6 with fail
        rw [← hw3]
        try rw [hgc]
        clear hw3 a0 a1 a2 a3 a4 a5 a6 a7 a8
        go_cut [8] (fun a8 wx => ∃ g8 : Nat, a8 = .pointer (some ⟨g8, 0, none⟩) ∧ Hid (PrA wx g8 D nm who) ∧ Hid (Below w3.heap.size w3 wx))
        case first =>
          go_region_held3 (fun w' => w'.cell? ⟨gc, 0, none⟩ = some (.int .i64 d) ∧ w'.cell? ⟨gc, 1, none⟩ = some (.int .i64 q) ∧ w'.cell? ⟨gc, 2, none⟩ = some (.string nm) ∧ w'.cell? ⟨gc, 3, none⟩ = some (.int .i64 kd) ∧ w'.cell? ⟨gc, 4, none⟩ = some (.string wh) ∧ w'.cell? ⟨gc, 5, none⟩ = some (.string ao) ∧ w'.cell? ⟨gc, 6, none⟩ = some (.string an) ∧ w'.cell? ⟨gc, 7, none⟩ = some (.string bo) ∧ w'.cell? ⟨gc, 8, none⟩ = some (.string bn) ∧ w'.cell? ⟨gp, 2, none⟩ = some (.string who))
            (first | with_reducible exact HKS.out _ HC3H.out HP3H.out | with_reducible exact HKS.out _ E4.out.1 E4.out.2.1 | exact HKS.out _ (by repeat (first | with_reducible exact HC3H.out | with_reducible exact E4.out.1 | with_reducible refine keep_drew ?_ | with_reducible refine keep_alloc ?_ | with_reducible refine keep_set ?_ (by have := HLT.out; (try have := E4.out.2.2); (try simp only [World.size_alloc]); omega))) (by repeat (first | with_reducible exact HP3H.out | with_reducible exact E4.out.2.1 | with_reducible refine keep_drew ?_ | with_reducible refine keep_alloc ?_ | with_reducible refine keep_set ?_ (by have := HLT.out; (try have := E4.out.2.2); (try simp only [World.size_alloc]); omega))))
            (first
            | (go_at_call 58; (refine (HR0.out w3.drew).mono ?_); rintro er w4 ⟨rfl, bb⟩; have HB4 : Hid (Below w3.heap.size w3 w4) := hid ((Below.refl _ _).drew.trans bb); have E4 : Hid (w4.heap[gc]? = some (.cells (Crd.cells ⟨d, q, nm, kd, wh, ao, an, bo, bn⟩).toArray 55 (0, 0)) ∧ w4.heap[gp]? = some (.cells #[.string o, .string n, .string who] 58 (0, 0)) ∧ w3.heap.size ≤ w4.heap.size) := hid ⟨HB4.out.block _ HLT.out.1 |>.trans HC3.out, HB4.out.block _ HLT.out.2 |>.trans HP3.out, by have := bb.size; (try simp at this); omega⟩; clear bb)
            | (go_at_call 58; (refine (HR0.out (w3.alloc (.cells #[.string ⟨#[]⟩, .string ⟨#[]⟩, .string ⟨#[]⟩] 58)).drew).mono ?_); rintro er w4 ⟨rfl, bb⟩; have HB4 : Hid (Below w3.heap.size w3 w4) := hid (((Below.refl _ _).alloc (Nat.le_refl _) _).drew.trans (bb.mono (by simp))); have E4 : Hid (w4.heap[gc]? = some (.cells (Crd.cells ⟨d, q, nm, kd, wh, ao, an, bo, bn⟩).toArray 55 (0, 0)) ∧ w4.heap[gp]? = some (.cells #[.string o, .string n, .string who] 58 (0, 0)) ∧ w3.heap.size < w4.heap.size) := hid ⟨HB4.out.block _ HLT.out.1 |>.trans HC3.out, HB4.out.block _ HLT.out.2 |>.trans HP3.out, by have := bb.size; (try simp at this); omega⟩; have HY8 : Hid (w4.heap[w3.heap.size]? = some (.cells #[.string ⟨#[]⟩, .string ⟨#[]⟩, .string ⟨#[]⟩] 58 (0, 0))) := hid ((bb.block _ (by simp)).trans (keep_drew (heap_alloc_new w3 _))); have y80 : w4.cell? ⟨w3.heap.size, 0, none⟩ = _ := cell_of_row w4 _ 0 _ _ (0, 0) HY8.out; have y81 : w4.cell? ⟨w3.heap.size, 1, none⟩ = _ := cell_of_row w4 _ 1 _ _ (0, 0) HY8.out; have y82 : w4.cell? ⟨w3.heap.size, 2, none⟩ = _ := cell_of_row w4 _ 2 _ _ (0, 0) HY8.out; simp at y80 y81 y82; have z80 := frozen_of_row w4 w3.heap.size 0 _ _ HY8.out; have z81 := frozen_of_row w4 w3.heap.size 1 _ _ HY8.out; have z82 := frozen_of_row w4 w3.heap.size 2 _ _ HY8.out; clear bb))
          all_goals
            go_wp2_with fail
            go_meet
            case rel =>
              first
              | exact ⟨_, rfl, hid (PrA.new w4 _ _ _), hid (HB4.out.alloc HB4.out.size _)⟩
              | exact ⟨_, rfl, hid (set_three HY8.out), hid (((HB4.out.setCell (Nat.le_refl _) _).setCell (Nat.le_refl _) _).setCell (Nat.le_refl _) _)⟩
        case rest =>
          obtain ⟨g8, rfl, HP8, HB5⟩ := hcut
          obtain ⟨w5, hw5⟩ : ∃ x, x = wc := ⟨_, rfl⟩
          subst hw5
          have HS5 := hid (HSk3.out.below HB5.out)
          have HC5 := hid (HC3.out.kept HB5.out)
          obtain ⟨f0, f1, f2, f3, f4, f5, f6, f7, f8⟩ := HC5.out.all
          obtain ⟨t0, t1, t2⟩ := HP8.out.all
          have HTR := hid (ctry_any HS5.out HP.out ⟨d, q, nm, kd, wh, ao, an, bo, bn⟩ HMY.out ((D, nm), who) ⟨HOD.out, HOW.out⟩ HRL.out.symm m HM.out)
          rw [HSB.out] at HTR
          unfold Crd.cells at HTR
          simp only at HTR
          have HXT := hid (HXK.out.trans (Ext.of_below Mf ck (HQ3.out.trans (HB5.out.mono HQ3.out.size))))
          cases hwy : why ⟨d, q, nm, kd, wh, ao, an, bo, bn⟩ (((asks.take k).foldl (Se.folO L.pe who m) x.s).lt m) ((D, nm), who) with
          | none =>
            have eN : Se.folO L.pe who m ((asks.take k).foldl (Se.folO L.pe who m) x.s) ⟨d, q, nm, kd, wh, ao, an, bo, bn⟩ = ((asks.take k).foldl (Se.folO L.pe who m) x.s) := by unfold Se.folO; rw [if_neg hk3, if_neg (by rw [HRL.out]; exact why_none.1 hwy)]
            have HEN := hid eN
            rw [hwy] at HTR
            clear eN hwy
            go_wp2_with (go_at_call 69; (refine HTR.out.mono ?_); rintro er w8 ⟨ht, bb⟩; have HB8 := hid bb; have HS8 := hid (HS5.out.below bb); obtain rfl := ht.nil; clear ht bb)
            go_roundw
            case rel => exact ⟨k + 1, vFk, ck, by go_num, by omega, hid (by rw [HSN.out, HEN.out]; exact HS8.out), hid (HXT.out.trans (Ext.of_below Mf ck HB8.out))⟩
            case measure => simp [intOf]; omega
          | some ps =>
            have eN : Se.folO L.pe who m ((asks.take k).foldl (Se.folO L.pe who m) x.s) ⟨d, q, nm, kd, wh, ao, an, bo, bn⟩ = ((asks.take k).foldl (Se.folO L.pe who m) x.s).add ((D, nm), who) m := by unfold Se.folO; rw [if_neg hk3, if_pos (by rw [HRL.out]; exact why_der hwy), HRL.out]
            have HEN := hid eN
            rw [hwy] at HTR
            clear eN hwy
            go_wp2_with (first
              | (go_at_call 69; (refine HTR.out.mono ?_); rintro er w8 ⟨ht, bb⟩; have HB8 := hid bb; have HS8 := hid (HS5.out.below bb); have HP9 := hid (HP8.out.kept bb); (obtain ⟨u0, u1, u2⟩ := HP9.out.all); obtain ⟨np, At, ct, rfl⟩ := ht.one; clear ht bb)
              | (go_at_call 66; have HAD := cadd_any HS8.out ((D, nm), who) ⟨HOD.out, HOW.out⟩ m HM0.out (by have := HBK.out.2.1; show ((asks.take k).foldl (Se.folO L.pe who m) x.s).kn.length ≤ _; omega) (by have := HBK.out.2.2; show ((asks.take k).foldl (Se.folO L.pe who m) x.s).fr.length ≤ _; omega); rw [HSB.out] at HAD; (refine HAD.mono ?_); rintro er w9 ⟨rfl, vF9, c9, h9, x9⟩; have HS9 := hid h9; have HX9 := hid x9; clear h9 x9 HAD))
            go_roundw
            case rel => exact ⟨k + 1, vF9, c9, by go_num, by omega, hid (by rw [HSN.out, HEN.out]; exact HS9.out), hid (HXT.out.trans ((Ext.of_below Mf ck HB8.out).trans (HX9.out.mono fun _ => Mf.ofC)))⟩
            case measure => simp [intOf]; omega

    · obtain rfl : k = N := by omega
      have HSA : Hid (Sea L wr vFk vL ck { x with s := (asks.foldl (Se.folO L.pe who m) x.s) }) := hid (by have := HSK.out; rwa [List.take_of_length_le (by rw [HNA.out]; exact Nat.le_refl _)] at this)
      have HPr : Hid (PrA wr gp o n who) := hid ((HXK.out.free HP1.out.lt HGP.out).trans HP1.out)
      have HGK : Hid (ck gp = none) := hid ((HXK.out.col _ HP1.out.lt).trans HGP.out)
      obtain ⟨vB, lkB, owB, lnB, cfB⟩ := HSA.out.lnk.look lawR Tryd.underlying64 ch_z38 (k := (o, n)) HOR.out (keyR HOR.out)
      rw [show ({ x with s := (asks.foldl (Se.folO L.pe who m) x.s) } : Sx).s.lnk (o, n) = lnks from HLN.out] at owB lnB
      have hNc : NL ≤ 10000000000 := by have h0 := (HBB.out k).1; rw [List.take_of_length_le (by rw [HNA.out]; exact Nat.le_refl _)] at h0; have h1 : lnks.length ≤ (asks.foldl (Se.folO L.pe who m) x.s).ic := lnB; rw [HNB.out] at h1; omega
      obtain ⟨B, cB, rfl, -, -, -⟩ := owB.els
      rw [HNB.out] at lkB
      rw [HB4.out] at lkB
      have HK2 := hid (fun W (hW : Below wr.heap.size wr W) => (⟨by rw [← HSB.out, ← HB4.out]; exact (HSA.out.below hW).cell.2.2.2.1, (HPr.out.kept hW).all.1, (HPr.out.kept hW).all.2.1, lkB W (hW.block _ (by rw [← HB4.out]; exact HSA.out.dom _ _ HSA.out.c4))⟩ :
        W.cell? ⟨sb, 20, none⟩ = some (.map (some b4)) ∧ W.cell? ⟨gp, 0, none⟩ = some (.string o) ∧ W.cell? ⟨gp, 1, none⟩ = some (.string n) ∧ (Instr.lookup 64 (.map (some b4)) (.agg #[.string o, .string n]) false).run Tryd.prog W = .ok (.slice B NL cB) W))
      have HEB := hid (fun W c' (hW : Ext Mc wr W ck c') => (own_els (own_sub owB hW (fun g hg c e => by rw [cfB g hg] at e; cases e; unfold Mc; omega)) : Els encR W W.heap.size B lnks))
      have HMR : Hid (∀ r ∈ lnks, okR r) := hid (fun r hr => HSA.out.sz.lnk (o, n) r (by rw [← HLN.out] at hr; exact hr))
      clear owB lnB cfB lkB HSK
      obtain ⟨wo, hwo⟩ : ∃ x, x = wr := ⟨_, rfl⟩
      subst hwo
      go_wp2_with fail
      obtain ⟨k1, k2, k3, k4⟩ := HK2.out _ (Below.refl _ _)
      go_region_held3 (fun w' => w'.cell? ⟨sb, 20, none⟩ = some (.map (some b4)) ∧ w'.cell? ⟨gp, 0, none⟩ = some (.string o) ∧ w'.cell? ⟨gp, 1, none⟩ = some (.string n) ∧ (Instr.lookup 64 (.map (some b4)) (.agg #[.string o, .string n]) false).run Tryd.prog w' = .ok (.slice B NL cB) w')
        (exact HK2.out _ (Below.refl _ _).drew) (fail)
      clear k1 k2 k3 k4
      have HSD := hid (HSA.out.below (Below.refl wo.heap.size wo).drew)
      have HXD : Hid (Ext Mc wo wo.drew ck ck) := hid (Ext.of_below Mc ck (Below.refl wo.heap.size wo).drew)
      go_wp2_with fail
      go_loopw [61] (fun i wr => ∃ (k : Nat) (vFk : Value) (cj : Col), i = .int .i64 (k : Int) ∧ k ≤ NL ∧ Hid (Sea L wr vFk vL cj { x with s := ((lnks.take k).foldl (fun s r => s.add (r, who) m) (asks.foldl (Se.folO L.pe who m) x.s)) }) ∧ Hid (Ext Mc wo wr ck cj)) (fun i _ => NL - (intOf i).toNat)
      case atStart => exact ⟨0, vFk, ck, rfl, Nat.zero_le _, HSD, HXD⟩
      case round =>
        obtain ⟨k, vFj, cj, rfl, hk, HSK, HXJ⟩ := hrel
        by_cases hlt : k < NL
        · obtain ⟨⟨go, gn⟩, hx⟩ : ∃ x, lnks[k]? = some x := ⟨_, List.getElem?_eq_getElem (by rw [HNB.out]; exact hlt)⟩
          obtain ⟨ad, aj, rfl, hab, ea, hbj, a0, ai⟩ := (HEB.out wr cj HXJ.out).get hx
          have a0 := a0 _ rfl
          have a1 := ai 1 _ (by decide) rfl
          have ea : ad.add (k * 2) = aj := ea
          have hk0 : (0 : Int) ≤ (k : Int) := Int.natCast_nonneg _
          have hk1 : (k : Int) < (NL : Int) := by omega
          have HMY := hid (HMR.out _ (List.mem_of_getElem? hx))
          obtain ⟨w3, hw3⟩ : ∃ w3, w3 = wr.alloc (.cells #[.string go, .string gn] 24) := ⟨_, rfl⟩
          obtain ⟨gc, hgc⟩ : ∃ g, wr.heap.size = g := ⟨_, rfl⟩
          have HQ3 : Hid (Below wr.heap.size wr w3) := hid (by rw [hw3]; exact (Below.refl _ _).alloc (Nat.le_refl _) _)
          have HC3 : Hid (RoleAt w3 gc go gn) := hid (by rw [hw3, ← hgc]; exact RoleAt.new wr _ _)
          have HS8 := hid (HSK.out.below HQ3.out)
          have HPq : PrA wr gp o n who := (HXJ.out.free HPr.out.lt HGK.out).trans HPr.out
          have HP3 : Hid (PrA w3 gp o n who) := hid (HPq.kept HQ3.out)
          have HSN := hid (foldl_take_succ (fun s (r : Rl) => s.add (r, who) m) (asks.foldl (Se.folO L.pe who m) x.s) hx)
          have HBK := hid (HLL.out k)
          clear hx hab hbj ai HPq
          obtain ⟨p0, p1, p2⟩ := HP3.out.all
          have f0 := HC3.out.c0
          have f1 := HC3.out.c1
          go_upto_region 14 with fail
          rw [← hw3]
          try rw [hgc]
          clear hw3 hgc a0 a1
          go_wp2_with (go_at_call 66; have HAD := cadd_any HS8.out ((go, gn), who) ⟨HMY.out, HOW.out⟩ m HM0.out (by have := HBK.out.1; show ((lnks.take k).foldl (fun s r => s.add (r, who) m) (asks.foldl (Se.folO L.pe who m) x.s)).kn.length ≤ _; omega) (by have := HBK.out.2; show ((lnks.take k).foldl (fun s r => s.add (r, who) m) (asks.foldl (Se.folO L.pe who m) x.s)).fr.length ≤ _; omega); rw [HSB.out] at HAD; (refine HAD.mono ?_); rintro er w9 ⟨rfl, vF9, c9, h9, x9⟩; have HS9 := hid h9; have HX9 := hid x9; clear h9 x9 HAD)
          go_roundw
          case rel => exact ⟨k + 1, vF9, c9, by go_num, by omega, hid (by rw [HSN.out]; exact HS9.out), hid (HXJ.out.trans ((Ext.of_below Mc cj HQ3.out).trans HX9.out))⟩
          case measure => simp [intOf]; omega
        · obtain rfl : k = NL := by omega
          go_wp2_with fail
          go_end0
          exact ⟨rfl, vFj, cj, by rw [HEF.out]; have := HSK.out; rwa [List.take_of_length_le (by rw [HNB.out]; exact Nat.le_refl _)] at this, ((Ext.of_below Mf col HQ1.out).trans HXK.out).trans (HXJ.out.mono fun _ => Mf.ofC)⟩

end Go.Proofs.YtoajckhnneagnaaDoor.Sh
