/-
  The document's own All, by contract.
-/
import Derived.Test.YtoajckhnneagnaaDoorJd21
import Derived.Test.YtoajckhnneagnaaDoorJd22
import Derived.Test.YtoajckhnneagnaaDoorJd15
import Derived.Test.YtoajckhnneagnaaDoorJd4
import Derived.Test.YtoajckhnneagnaaDoorJd18
set_option linter.unusedVariables false
set_option linter.unusedSimpArgs false
namespace Go.Proofs.YtoajckhnneagnaaDoor.Sh
open Go Go.RowKit

set_option linter.unusedVariables false
set_option linter.unusedSimpArgs false
set_option maxHeartbeats 8000000 in
set_option maxRecDepth 100000 in
theorem refAll_any (A : Option Addr) (all : List Crd) (n c : Nat) (hn : all.length = n) (hm : n ≤ 30) (w : World) (h : Crs w w.heap.size A all) :
    Calls Tryd.prog 18 #[.slice A n c] w fun e w' => ∃ out A' c' lst, CountsOf out all ∧ e = .returned (.slice A' lst.length c') ∧ SortedP lst ∧ (∀ p, p ∈ lst ↔ Imp (· ∈ out) p) ∧ Own (E := encP) w' w.heap.size 47 (.slice A' lst.length c') lst ∧ Below w.heap.size w w' := by
  have HCO := hid (refCounts_any A all n c hn (by omega) w h)
  clear h hn
  go_enter Tryd.func18, Tryd.ntmps18
  go_wp2_with fail
  refine HCO.out.mono ?_
  rintro er w2 ⟨Ac, nc, cc, cs, rfl, hnc, oc, hco, bb⟩
  have HB2 := hid bb
  have HCN := hid hco
  have HCS := hid oc.crs
  have HCL := hid oc.len
  have HMY : Hid (∀ c ∈ cs, mayC c = true) := hid (fun c hc => (counts_mem hco hc).1)
  have HNC : Hid (nc ≤ 30) := hid (by omega)
  obtain ⟨ws, hws⟩ : ∃ ws, whos cs [] = ws := ⟨_, rfl⟩
  have HWS : Hid (∀ c ∈ cs, c.wh ∈ ws) := hid (fun c hc => by rw [← hws]; exact List.mem_append_left _ (List.mem_map.2 ⟨c, hc, rfl⟩))
  have HWL : Hid (cs.length * ws.length ≤ 900) := hid (by
    rw [← hws]; unfold whos
    rw [List.length_append, List.length_map, List.map_nil, List.length_nil, oc.len]
    exact Nat.mul_le_mul (by omega : nc ≤ 30) (by omega : nc + 0 ≤ 30))
  clear HCO bb oc hco hnc hws
  go_wp2_with fail
  go_loopw [4] (fun v wr => ∃ (A1 : Option Addr) (n1 c1 : Nat) (now : List Pr), v = .slice A1 n1 c1 ∧ n1 ≤ 900 ∧ Hid (now.length = n1) ∧ Hid (Els encP wr wr.heap.size A1 now) ∧ Hid (Within cs ws [] now) ∧ Hid (∀ p ∈ now, Imp (· ∈ cs) p) ∧ Hid (n1 ≤ c1 ∧ c1 ≤ 9223372036854775807) ∧ Hid (Below w2.heap.size w2 wr)) (fun v _ => 900 - lenV v)
  case atStart => exact ⟨none, 0, 0, [], rfl, Nat.zero_le _, hid rfl, hid Els.nil, hid (Within.start cs (by simp)), hid (by simp), hid (by omega), hid (Below.refl _ _)⟩
  case round =>
    obtain ⟨A1, n1, c1, now, rfl, hn1, HN1, HE1, HWI, HIM, HC1, HB1⟩ := hrel
    have HRO := hid (round_any Ac cs nc cc HCL.out (by have := HNC.out; omega) HMY.out A1 now n1 c1 HN1.out (by omega) wr ((HCS.out.below HB1.out).more HB1.out.size) HE1.out)
    go_wp2_with fail
    refine HRO.out.mono ?_
    rintro er w3 ⟨A3, c3, nxt, rfl, ho3, hb3, hr3⟩
    obtain ⟨n3, hn3⟩ : ∃ k, nxt.length = k := ⟨_, rfl⟩
    have HN3 := hid hn3
    have HO3 := hid ho3
    have HB3 := hid (HB1.out.trans (hb3.mono HB1.out.size))
    have HR3 := hid hr3
    have HE4 := hid ((HE1.out.below hb3).more hb3.size)
    have HWI3 := hid (HWI.out.next HWS.out hr3)
    have HE3 := hid (own_els ho3)
    have hn3b : n3 ≤ 900 := by have := HWI3.out.len.2; have := HWL.out; simp at *; omega
    have hle : n1 ≤ n3 := by have := hr3.len; rw [HN1.out, hn3] at this; exact this
    rw [hn3]
    clear HRO ho3 hb3 hr3 hn3
    by_cases heq : n3 = n1
    · subst heq
      have HMM : Hid (∀ p, p ∈ now ↔ Imp (· ∈ cs) p) := hid (rounds_end HIM.out HR3.out (by rw [HN3.out, HN1.out]))
      have HS0 := hid (SelP.start HWI.out.nodup)
      have HW3 := hid (HB2.out.trans (HB3.out.mono HB2.out.size))
      clear HE3 HO3 HR3 HWI3 HN3 HB1 HB3 HIM HWI hle
      obtain ⟨wo, hwo⟩ : ∃ x, x = wr := ⟨_, rfl⟩
      subst hwo
      go_wp2_with fail
      go_loopw [4, 6] (fun v v6 wr => ∃ (An : Option Addr) (nl cn : Nat) (nw : List Pr) (Ao : Option Addr) (no co : Nat) (o : List Pr), v = .slice An nl cn ∧ v6 = .slice Ao no co ∧ nl ≤ cn ∧ cn ≤ 9223372036854775807 ∧ nl + no = n3 ∧ Hid (nw.length = nl) ∧ Hid (o.length = no) ∧ Hid (Els encP wr wr.heap.size An nw) ∧ Hid (FarV An (.slice Ao no co)) ∧ Hid (Own (E := encP) wr w.heap.size 47 (.slice Ao no co) o) ∧ Hid (SelP now o nw) ∧ Hid (Below w.heap.size w wr)) (fun v _ _ => lenV v)
      case atStart => exact ⟨A1, n3, c1, now, none, 0, 0, [], rfl, rfl, HC1.out.1, HC1.out.2, rfl, HN1, hid rfl, HE4, hid (FarV.nil _), hid (Own.nil _ _ _), HS0, HW3⟩
      case round =>
        obtain ⟨An, nl, cn, nw, Ao, no, co, o, rfl, rfl, hcn, hcn2, hno, HNL, HNO, HEN, HFA, HOO, HSL, HBW⟩ := hrel
        by_cases hpos : 0 < nl
        · have hpi : (0 : Int) < (nl : Int) := by omega
          obtain ⟨x0, hx0⟩ : ∃ x, nw[0]? = some x := ⟨_, List.getElem?_eq_getElem (by rw [HNL.out]; exact hpos)⟩
          have HLS := hid (LeastP.start hx0)
          clear hx0
          obtain ⟨wp, hwp⟩ : ∃ x, x = wr := ⟨_, rfl⟩
          subst hwp
          go_wp2_with fail
          go_loopw [7, 8] (fun v v8 wr => ∃ (m k : Nat), v = .int .i64 (m : Int) ∧ v8 = .int .i64 (k : Int) ∧ m < k ∧ k ≤ nl ∧ Hid (LeastP nw k m) ∧ Hid (Below wp.heap.size wp wr)) (fun _ v8 _ => nl - (intOf v8).toNat)
          case atStart => exact ⟨0, 1, rfl, rfl, by omega, by omega, HLS, hid (Below.refl _ _)⟩
          case round =>
            obtain ⟨m, k, rfl, rfl, hmk, hk, HLP, HBP⟩ := hrel
            by_cases hlt : k < nl
            · obtain ⟨⟨⟨o1, q1⟩, y1⟩, hx1⟩ : ∃ x, nw[k]? = some x := ⟨_, List.getElem?_eq_getElem (by rw [HNL.out]; exact hlt)⟩
              obtain ⟨⟨⟨o2, q2⟩, y2⟩, hx2⟩ : ∃ x, nw[m]? = some x := ⟨_, List.getElem?_eq_getElem (by rw [HNL.out]; omega)⟩
              have HLN := hid (HLP.out.next hx2 hx1)
              obtain ⟨ad, ak, rfl, hab, ek, hkb, a0, ai⟩ := (HEN.out.below HBP.out).get hx1
              have a0 := a0 _ rfl
              have a1 := ai 1 _ (by omega) rfl
              have a2 := ai 2 _ (by omega) rfl
              have ek : ad.add (k * 3) = ak := ek
              obtain ⟨bd, am, ebd, hbb, em, hmb, b0, bi⟩ := (HEN.out.below HBP.out).get hx2
              obtain rfl : ad = bd := Option.some.inj ebd
              have b0 := b0 _ rfl
              have b1 := bi 1 _ (by omega) rfl
              have b2 := bi 2 _ (by omega) rfl
              have em : ad.add (m * 3) = am := em
              have hk0 : (0 : Int) ≤ (k : Int) := Int.natCast_nonneg _
              have hk1 : (k : Int) < (nl : Int) := by omega
              have hm0 : (0 : Int) ≤ (m : Int) := Int.natCast_nonneg _
              have hm1 : (m : Int) < (nl : Int) := by omega
              have hba : ad.block < wr.heap.size := Nat.lt_of_lt_of_le hab HBP.out.size
              have HK := hid (fun W (hW : Below wr.heap.size wr W) => (⟨(hW.cell (p := ak) (by rw [hkb]; exact hba)).trans a0, (hW.cell (p := ⟨ak.block, ak.off + 1, none⟩) (by rw [hkb]; exact hba)).trans a1, (hW.cell (p := ⟨ak.block, ak.off + 2, none⟩) (by rw [hkb]; exact hba)).trans a2,
                (hW.cell (p := am) (by rw [hmb]; exact hba)).trans b0, (hW.cell (p := ⟨am.block, am.off + 1, none⟩) (by rw [hmb]; exact hba)).trans b1, (hW.cell (p := ⟨am.block, am.off + 2, none⟩) (by rw [hmb]; exact hba)).trans b2⟩ :
                W.cell? ak = some (.string o1) ∧ W.cell? ⟨ak.block, ak.off + 1, none⟩ = some (.string q1) ∧ W.cell? ⟨ak.block, ak.off + 2, none⟩ = some (.string y1) ∧ W.cell? am = some (.string o2) ∧ W.cell? ⟨am.block, am.off + 1, none⟩ = some (.string q2) ∧ W.cell? ⟨am.block, am.off + 2, none⟩ = some (.string y2)))
              have HLR := hid (fun W => lessR_any o1 q1 y1 o2 q2 y2 W)
              obtain ⟨bb, hbb2⟩ : ∃ bb, lessP ((o1, q1), y1) ((o2, q2), y2) = bb := ⟨_, rfl⟩
              rw [hbb2] at HLN HLR
              have HDR := hid (Below.refl wr.heap.size wr).drew
              clear hx1 hx2 ebd hbb hmb hkb hab hba a0 a1 a2 b0 b1 b2 ai bi hbb2
              have a0 := fun x : Wn wr.heap.size wr => (HK.out x.1 x.2).1
              have a1 := fun x : Wn wr.heap.size wr => (HK.out x.1 x.2).2.1
              have a2 := fun x : Wn wr.heap.size wr => (HK.out x.1 x.2).2.2.1
              have b0 := fun x : Wn wr.heap.size wr => (HK.out x.1 x.2).2.2.2.1
              have b1 := fun x : Wn wr.heap.size wr => (HK.out x.1 x.2).2.2.2.2.1
              have b2 := fun x : Wn wr.heap.size wr => (HK.out x.1 x.2).2.2.2.2.2
              go_wp2_with fail
              refine region_in wr.heap.size wr (by kernel_rfl) (by kernel_rfl) HDR.out ?_
              repeat (go_big_quiet_step (first | (go_at_call 35; exact call_in (Nat.le_refl _) (HLR.out _))))
              refine wpQuiet_nil ?_
              intro wq hwq
              have HWQ := hid (HBP.out.trans (hwq.mono HBP.out.size))
              clear hwq a0 a1 a2 b0 b1 b2
              cases bb with
              | true =>
                rw [if_pos rfl] at HLN
                go_wp2
                go_roundw
                case rel => exact ⟨k, k + 1, rfl, by go_num, by omega, by omega, HLN, HWQ⟩
                case measure => simp [intOf]; omega
              | false =>
                rw [if_neg (by decide)] at HLN
                go_wp2
                go_roundw
                case rel => exact ⟨m, k + 1, rfl, by go_num, by omega, by omega, HLN, HWQ⟩
                case measure => simp [intOf]; omega
            · obtain rfl : k = nl := by omega
              obtain ⟨⟨⟨o2, q2⟩, y2⟩, hx2, hmin⟩ := HLP.out.done HNL.out
              have HS1 := hid (HSL.out.step hx2 hmin)
              have HEP := HEN.out.below HBP.out
              obtain ⟨ad, am, rfl, hab, em, hmb, b0, bi⟩ := HEP.get hx2
              have b0 := b0 _ rfl
              have b1 := bi 1 _ (by omega) rfl
              have b2 := bi 2 _ (by omega) rfl
              have em : ad.add (m * 3) = am := em
              have hm0 : (0 : Int) ≤ (m : Int) := Int.natCast_nonneg _
              have hm1 : (m : Int) < (k : Int) := by omega
              have hmc : (m : Int) ≤ (cn : Int) := by omega
              have hm2 : (m : Int) + 1 ≤ (k : Int) := by omega
              have O1 := HOO.out.below HBP.out
              have B1 := HBW.out.trans (HBP.out.mono HBW.out.size)
              have O2 := hid (O1.alloc (.cells #[.string o2, .string q2, .string y2] 47))
              have HRD := hid (reads_new wr #[.string o2, .string q2, .string y2] 47 (0, 0))
              have E2 := hid (HEP.below (((Below.refl wr.heap.size wr).alloc (Nat.le_refl _) (.cells #[.string o2, .string q2, .string y2] 47)).mono HBP.out.size))
              have hs2 : w.heap.size ≤ (wr.alloc (.cells #[.string o2, .string q2, .string y2] 47)).heap.size := le_alloc B1.size _
              have hp2 : wp.heap.size ≤ (wr.alloc (.cells #[.string o2, .string q2, .string y2] 47)).heap.size := le_alloc HBP.out.size _
              have HB2a := hid (B1.alloc B1.size (.cells #[.string o2, .string q2, .string y2] 47))
              have hlen : o.length ≤ 1000000000000 := by rw [HNO.out]; omega
              have Q2 : Hid ((nw.take m).length = m) := hid (by rw [List.length_take, HNL.out]; omega)
              have Q3 : ([] : List Pr).length + m ≤ 1000000000000 := by simp; omega
              have Q9 : Hid (nw.length ≤ cn) := hid (by rw [HNL.out]; omega)
              clear hx2 hmin HEP hab hmb bi O1 B1
              by_cases hcl : cn = m + 1
              · obtain rfl : k = m + 1 := by omega
                have HD0 : Hid (nw.drop (m + 1) = []) := hid (List.drop_of_length_le (by rw [HNL.out]; exact Nat.le_refl _))
                rw [HD0.out] at HS1
                have R5 : Hid (∀ W : World, Reads W (some ad) (ev encP [])) := hid (fun W h => absurd h (by simp [ev]))
                go_wp2_with (first
                  | (at_builtin; refine wpList_app1 (E := encP) rfl slQ (.tmp 40) (.tmp 45) rfl (B := w.heap.size) (v := .slice Ao no co) (l := o) O2.out rfl (ad := ⟨wr.heap.size, 0, none⟩) (c := 1) ((o2, q2), y2) rfl HRD.out hlen (by omega) hs2 ?_; intro A3 c3 w3 o3 g3 e3; rw [HNO.out] at o3 e3 ⊢; have HO3 := hid o3; have HE3 := hid (E2.out.far hp2 g3 HFA.out); have HB3 := hid (HB2a.out.grown g3 hs2 (fun g e => (O2.out.lt g e).1)); have hs3 := hid (Nat.le_trans hp2 g3.size); clear o3 g3 e3)
                  | (at_builtin; refine wpList_appL (E := encP) rfl slQ (.tmp 47) (.tmp 50) rfl (B := w.heap.size) (v := .slice none 0 0) (l := []) (Own.nil _ _ _) rfl (m := m) (c := m + 1) (nw.take m) rfl Q2.out (HE3.out.head).reads Q3 (by omega) HB3.out.size ?_; intro A4 c4 w4 o4 g4 e4; simp only [List.length_nil, Nat.zero_add, List.nil_append] at o4 e4 ⊢; have HO4 := hid o4; have HE4 := hid (HE3.out.far hs3.out g4 (FarV.nil _)); have HB4 := hid (HB3.out.grown g4 HB3.out.size (fun g e => by cases e)); have HP4 := hid (HO3.out.keptBy g4 (fun g _ e => by cases e)); have HN4 : Hid (∀ g, (Value.slice A3 (no + 1) c3).ownBlock = some g → (Value.slice A4 m c4).ownBlock ≠ some g ∧ g < w4.heap.size) := (hid (fun g e => by
                    have h1 := (HO3.out.lt g e).2
                    refine ⟨fun e2 => ?_, Nat.lt_of_lt_of_le h1 g4.size⟩
                    rcases e4 with h2 | h2
                    · rw [h2] at e2; cases e2
                    · rw [h2] at e2; injection e2 with e2; omega)); have hs4 := hid (Nat.le_trans hs3.out g4.size); clear o4 g4 e4)
                  | (at_builtin; refine wpList_appL (E := encP) rfl slQ (.tmp 52) (.tmp 56) rfl (B := w.heap.size) (v := .slice A4 m c4) (l := nw.take m) HO4.out rfl (A := some ad) (m := 0) (c := 0) ([]) rfl rfl (R5.out _) (by rw [Q2.out]; omega) (by omega) HB4.out.size ?_; intro A5 c5 w5 o5 g5 e5; rw [Q2.out] at o5 e5 ⊢; have HO5 := hid o5; have HP5 := hid (HP4.out.keptBy g5 (fun g e => (HN4.out g e).1)); have HB5 := hid (HB4.out.grown g5 HB4.out.size (fun g e => (HO4.out.lt g e).1)); have HF5 : Hid (FarV A5 (.slice A3 (no + 1) c3)) := (hid (own_far (n := m + (0)) (c := c5) (fun g e => by
                    rcases e5 with h2 | h2
                    · rw [h2]; exact (HN4.out g e).1
                    · rw [h2]; intro e2; injection e2 with e2; have := (HN4.out g e).2; omega))); clear o5 g5 e5))
                have hcap := HO5.out.els
                obtain ⟨_, cc5, e5, hcap1, hcap2, he5⟩ := hcap
                simp only [Value.slice.injEq] at e5
                obtain ⟨rfl, e6, rfl⟩ := e5
                have HE6 := hid he5
                rw [← e6] at hcap1
                go_roundw
                case rel => exact ⟨A5, _, c5, nw.take m ++ [], A3, no + 1, c3, o ++ [((o2, q2), y2)], rfl, rfl, hcap1, hcap2, by omega, hid e6.symm, hid (by rw [List.length_append, HNO.out]; rfl), HE6, HF5, HP5, HS1, HB5⟩
                case measure => simp [lenV] <;> omega
              · have Q8 : Hid ((nw.drop (m + 1)).length = k - (m + 1)) := hid (by rw [List.length_drop, HNL.out])
                have Q7 : Hid (m + (k - (m + 1)) ≤ 1000000000000) := hid (by omega)
                go_wp2_with (first
                  | (at_builtin; refine wpList_app1 (E := encP) rfl slQ (.tmp 40) (.tmp 45) rfl (B := w.heap.size) (v := .slice Ao no co) (l := o) O2.out rfl (ad := ⟨wr.heap.size, 0, none⟩) (c := 1) ((o2, q2), y2) rfl HRD.out hlen (by omega) hs2 ?_; intro A3 c3 w3 o3 g3 e3; rw [HNO.out] at o3 e3 ⊢; have HO3 := hid o3; have HE3 := hid (E2.out.far hp2 g3 HFA.out); have HB3 := hid (HB2a.out.grown g3 hs2 (fun g e => (O2.out.lt g e).1)); have hs3 := hid (Nat.le_trans hp2 g3.size); clear o3 g3 e3)
                  | (at_builtin; refine wpList_appL (E := encP) rfl slQ (.tmp 47) (.tmp 50) rfl (B := w.heap.size) (v := .slice none 0 0) (l := []) (Own.nil _ _ _) rfl (m := m) (c := cn) (nw.take m) rfl Q2.out (HE3.out.head).reads Q3 (by omega) HB3.out.size ?_; intro A4 c4 w4 o4 g4 e4; simp only [List.length_nil, Nat.zero_add, List.nil_append] at o4 e4 ⊢; have HO4 := hid o4; have HE4 := hid (HE3.out.far hs3.out g4 (FarV.nil _)); have HB4 := hid (HB3.out.grown g4 HB3.out.size (fun g e => by cases e)); have HP4 := hid (HO3.out.keptBy g4 (fun g _ e => by cases e)); have HN4 : Hid (∀ g, (Value.slice A3 (no + 1) c3).ownBlock = some g → (Value.slice A4 m c4).ownBlock ≠ some g ∧ g < w4.heap.size) := (hid (fun g e => by
                    have h1 := (HO3.out.lt g e).2
                    refine ⟨fun e2 => ?_, Nat.lt_of_lt_of_le h1 g4.size⟩
                    rcases e4 with h2 | h2
                    · rw [h2] at e2; cases e2
                    · rw [h2] at e2; injection e2 with e2; omega)); have hs4 := hid (Nat.le_trans hs3.out g4.size); clear o4 g4 e4)
                  | (at_builtin; refine wpList_appL (E := encP) rfl slQ (.tmp 52) (.tmp 56) rfl (B := w.heap.size) (v := .slice A4 m c4) (l := nw.take m) HO4.out rfl (A := some (ad.add ((m + 1) * 3))) (m := k - (m + 1)) (c := cn - (m + 1)) (nw.drop (m + 1)) rfl Q8.out (by have h7 := (HE4.out.tail (lo := m + 1) (cap := cn) Q9.out).reads; rw [if_neg hcl] at h7; exact h7) (by rw [Q2.out]; omega) (by omega) HB4.out.size ?_; intro A5 c5 w5 o5 g5 e5; rw [Q2.out] at o5 e5 ⊢; have HO5 := hid o5; have HP5 := hid (HP4.out.keptBy g5 (fun g e => (HN4.out g e).1)); have HB5 := hid (HB4.out.grown g5 HB4.out.size (fun g e => (HO4.out.lt g e).1)); have HF5 : Hid (FarV A5 (.slice A3 (no + 1) c3)) := (hid (own_far (n := m + (k - (m + 1))) (c := c5) (fun g e => by
                    rcases e5 with h2 | h2
                    · rw [h2]; exact (HN4.out g e).1
                    · rw [h2]; intro e2; injection e2 with e2; have := (HN4.out g e).2; omega))); clear o5 g5 e5))
                have hcap := HO5.out.els
                obtain ⟨_, cc5, e5, hcap1, hcap2, he5⟩ := hcap
                simp only [Value.slice.injEq] at e5
                obtain ⟨rfl, e6, rfl⟩ := e5
                have HE6 := hid he5
                rw [← e6] at hcap1
                go_roundw
                case rel => exact ⟨A5, _, c5, nw.take m ++ nw.drop (m + 1), A3, no + 1, c3, o ++ [((o2, q2), y2)], rfl, rfl, hcap1, hcap2, by omega, hid e6.symm, hid (by rw [List.length_append, HNO.out]; rfl), HE6, HF5, HP5, HS1, HB5⟩
                case measure => simp [lenV] <;> omega
        · obtain rfl : nl = 0 := by omega
          obtain rfl : nw = [] := List.eq_nil_of_length_eq_zero HNL.out
          obtain ⟨hs1, hs2⟩ := HSL.out.done
          go_wp2
          go_ret
          refine ⟨cs, Ao, co, o, HCN.out, by rw [HNO.out]; rfl, hs1, fun p => by rw [hs2, HMM.out], by rw [HNO.out]; exact HOO.out, HBW.out⟩
    · have hne : ¬ (n3 : Int) = (n1 : Int) := by omega
      have hI := hid (HR3.out.imp HIM.out)
      go_wp2_with fail
      go_roundw
      case rel => exact ⟨A3, n3, c3, nxt, rfl, hn3b, HN3, HE3, HWI3, hI, hid (by have := HO3.out.els; obtain ⟨A', c', e, h1, h2, _⟩ := this; simp only [Value.slice.injEq] at e; obtain ⟨-, -, rfl⟩ := e; rw [HN3.out] at h1; exact ⟨h1, h2⟩), HB3⟩
      case measure => simp [lenV]; omega
end Go.Proofs.YtoajckhnneagnaaDoor.Sh
namespace Go.Proofs.YtoajckhnneagnaaDoor.Sh
open Go Go.RowKit

set_option linter.unusedVariables false
set_option linter.unusedSimpArgs false
theorem deep_le_iff (ps : List PT) (k : Int) (hk : 0 ≤ k) : ((ps.foldl (fun n p => max n (p.deep + 1)) 0 : Nat) : Int) ≤ k ↔ ∀ p ∈ ps, (p.deep : Int) + 1 ≤ k := by
  have key : ∀ (l : List PT) (a : Nat), ((l.foldl (fun n p => max n (p.deep + 1)) a : Nat) : Int) ≤ k ↔ (a : Int) ≤ k ∧ ∀ p ∈ l, (p.deep : Int) + 1 ≤ k := by
    intro l
    induction l with
    | nil => intro a; simp
    | cons p t ih =>
      intro a
      rw [List.foldl_cons, ih]
      constructor
      · rintro ⟨h1, h2⟩
        refine ⟨by omega, fun y hy => ?_⟩
        rcases List.mem_cons.1 hy with e | e
        · rw [e]; omega
        · exact h2 y e
      · rintro ⟨h1, h2⟩
        have := h2 p (by simp)
        exact ⟨by omega, fun y hy => h2 y (List.mem_cons_of_mem _ hy)⟩
  rw [key]
  exact ⟨fun h => h.2, fun h => ⟨by omega, h⟩⟩
theorem mem_take_succ {l : List PT} {j : Nat} {a : PT} (h : l[j]? = some a) {P : PT → Prop} (h1 : ∀ p ∈ l.take j, P p) (h2 : P a) : ∀ p ∈ l.take (j + 1), P p := fun p hp => by
  rw [take_snoc_of h, List.mem_append, List.mem_singleton] at hp
  rcases hp with hp | rfl
  · exact h1 p hp
  · exact h2
end Go.Proofs.YtoajckhnneagnaaDoor.Sh
namespace Go.Proofs.YtoajckhnneagnaaDoor.Sh
open Go Go.RowKit

set_option linter.unusedVariables false
set_option linter.unusedSimpArgs false

theorem deep_lt_size (p : PT) : p.deep < p.size := by
  induction p using PT.ind
  rename_i o n x d q A c ps ih
  rw [PT.deep_eq, PT.size_eq]
  have h := (deep_le_iff ps ((ps.map PT.size).sum : Int) (by omega)).2 (fun a ha => by
    have h1 := ih a ha
    obtain ⟨j, hj⟩ := List.getElem?_of_mem ha
    have h2 := sum_split hj
    omega)
  omega
set_option maxHeartbeats 4000000 in
theorem few7_any (p : PT) : ∀ (m : Nat) (w : World), m ≤ 1000 → PIn w w.heap.size p →
    Calls Tryd.prog 22 #[.agg p.cells.toArray, .int .i64 (m : Int)] w fun e w' => e = .returned (.int .i64 (if p.size ≤ m then (p.size : Int) else -1)) ∧ Below w.heap.size w w' := by
  induction p using PT.ind
  rename_i o n x d q A c ps ih
  intro m w hm hp
  have HIH := hid ih
  obtain ⟨S, hS⟩ : ∃ S, (PT.mk o n x d q A c ps).size = S := ⟨_, rfl⟩
  have HS : Hid (S = 1 + (ps.map PT.size).sum) := hid (by rw [← hS, PT.size_eq])
  rw [hS]
  obtain ⟨R, hR⟩ : ∃ R, (if S ≤ m then (S : Int) else -1) = R := ⟨_, rfl⟩
  have HRN : Hid (¬ S ≤ m → R = -1) := hid (fun h => by rw [← hR, if_neg h])
  have HRP : Hid (S ≤ m → R = S) := hid (fun h => by rw [← hR, if_pos h])
  rw [hR]
  obtain ⟨h1, h2, h3, h4⟩ := hp.open'
  obtain ⟨w1, hw1⟩ : ∃ w1, w1 = w.alloc (.cells (PT.mk o n x d q A c ps).cells.toArray 30) := ⟨_, rfl⟩
  have HQ1 : Hid (Below w.heap.size w w1) := hid (by rw [hw1]; exact below_pr w _)
  have HPA : Hid (PrAt w1 w.heap.size (.mk o n x d q A c ps)) := hid (by rw [hw1]; exact PrAt.new w _)
  have HPI := hid h4
  have HEL := hid (h3.below HQ1.out)
  obtain ⟨np, hnp⟩ : ∃ np, ps.length = np := ⟨_, rfl⟩
  have HNP := hid hnp
  have hnp63 : np ≤ 9223372036854775807 := by omega
  have HPA5 := hid (fun W (hW : Below w1.heap.size w1 W) => (HPA.out.kept hW).all)
  rw [hnp] at HPA5
  unfold PT.cells at hw1 ⊢
  simp only [hnp] at hw1 ⊢
  clear ih hp h1 h2 h3 h4 hnp hS hR
  have hm0 : (0 : Int) ≤ (m : Int) := by omega
  go_enter Tryd.func22, Tryd.ntmps22
  go_wp2_with fail
  rw [← hw1]
  clear hw1
  go_loopw [5, 6] (fun v i wr => ∃ s j : Nat, v = .int .i64 (s : Int) ∧ i = .int .i64 (j : Int) ∧ j ≤ np ∧ 1 ≤ s ∧ s ≤ 1001 ∧ Hid (s = 1 + ((ps.take j).map PT.size).sum) ∧ Hid (Below w1.heap.size w1 wr)) (fun _ i _ => np - (intOf i).toNat)
  case atStart => exact ⟨1, 0, rfl, rfl, Nat.zero_le _, by omega, by omega, hid (by simp), hid (Below.refl _ _)⟩
  case round =>
    obtain ⟨s, j, rfl, rfl, hj, hs1, hs2, HSU, HB⟩ := hrel
    obtain ⟨k0, k1, k2, k3, k4, k5⟩ := HPA5.out _ HB.out
    have hs0 : (1 : Int) ≤ (s : Int) := by omega
    by_cases hlt : j < np
    · by_cases hge : m ≤ s
      · have hgi : (m : Int) ≤ (s : Int) := by omega
        have HF : Hid (¬ S ≤ m) := hid (by
          have e1 := HS.out
          have e2 := HSU.out
          obtain ⟨a, ha⟩ : ∃ x, ps[j]? = some x := ⟨_, List.getElem?_eq_getElem (by rw [HNP.out]; exact hlt)⟩
          have e3 := sum_split ha
          have e4 := a.size_pos
          omega)
        have hj1 : (j : Int) < (np : Int) := by omega
        go_wp2_with fail
        go_ret
        exact ⟨by rw [HRN.out HF.out]; rfl, HQ1.out.trans (HB.out.mono HQ1.out.size)⟩
      · have hgi : ¬ (m : Int) ≤ (s : Int) := by omega
        obtain ⟨r, hr⟩ : ∃ r, m - s = r := ⟨_, rfl⟩
        have hri : (m : Int) - (s : Int) = (r : Int) := by omega
        have HR : Hid (s + r = m) := hid (by omega)
        obtain ⟨⟨o2, n2, x2, d2, q2, A2, c2, ps2⟩, hx⟩ : ∃ x, ps[j]? = some x := ⟨_, List.getElem?_eq_getElem (by rw [HNP.out]; exact hlt)⟩
        have HX := hid hx
        have HME : Hid (PT.mk o2 n2 x2 d2 q2 A2 c2 ps2 ∈ ps) := hid (List.mem_of_getElem? hx)
        obtain ⟨ad, aj, rfl, hab, ea, hbj, a0, a1, a2, a3, a4, a5⟩ := PIn.get (HEL.out.below (HB.out.mono HQ1.out.size)) hx
        have hj0 : (0 : Int) ≤ (j : Int) := Int.natCast_nonneg _
        have hj1 : (j : Int) < (np : Int) := by omega
        have HPN := hid (fun W (hW : Below w1.heap.size w1 W) => (HPI.out _ HME.out).now (HQ1.out.trans (hW.mono HQ1.out.size)))
        clear hx hab hbj
        have HCA := hid (HIH.out _ HME.out r wr (by omega) (HPN.out _ HB.out))
        unfold PT.cells at HCA
        simp only at HCA
        obtain ⟨z, hz⟩ : ∃ z, (PT.mk o2 n2 x2 d2 q2 A2 c2 ps2).size = z := ⟨_, rfl⟩
        have HZ := hid (sum_take HX.out)
        have HZ2 := hid (sum_split HX.out)
        rw [hz] at HCA HZ HZ2
        clear hz hr
        by_cases hzr : z ≤ r
        · rw [if_pos hzr] at HCA
          have hz0 : (0 : Int) ≤ (z : Int) := by omega
          have hzn : ¬ (z : Int) < 0 := by omega
          have hz1 : z ≤ 1000 := by have := HR.out; omega
          have hsz : ((s + z : Nat) : Int) = (s : Int) + (z : Int) := by omega
          obtain ⟨t, ht⟩ : ∃ t, s + z = t := ⟨_, rfl⟩
          have hst : (s : Int) + (z : Int) = (t : Int) := by omega
          have ht1 : t ≤ 1000 := by have := HR.out; omega
          have HT := hid ht
          clear hsz ht
          go_wp2_with fail
          refine HCA.out.mono ?_
          rintro er w3 ⟨rfl, hb3⟩
          have HB3 := hid (HB.out.trans (hb3.mono HB.out.size))
          clear hb3 HCA k0 k1 k2 k3 k4 k5 a0 a1 a2 a3 a4 a5
          go_wp2_with fail
          go_roundw
          case rel => exact ⟨t, j + 1, rfl, by go_num, by omega, by have := HT.out; omega, by omega, hid (by have := HZ.out; have := HSU.out; have := HT.out; omega), HB3⟩
          case measure => simp [intOf]; omega
        · rw [if_neg hzr] at HCA
          have HF : Hid (¬ S ≤ m) := hid (by have := HZ2.out; have := HSU.out; have := HS.out; have := HR.out; omega)
          go_wp2_with fail
          refine HCA.out.mono ?_
          rintro er w3 ⟨rfl, hb3⟩
          have HB3 := hid (HB.out.trans (hb3.mono HB.out.size))
          clear hb3 HCA k0 k1 k2 k3 k4 k5 a0 a1 a2 a3 a4 a5
          go_wp2_with fail
          go_ret
          exact ⟨by rw [HRN.out HF.out]; rfl, HQ1.out.trans (HB3.out.mono HQ1.out.size)⟩
    · obtain rfl : j = np := by omega
      have HE : Hid (s = S) := hid (by have e1 := HSU.out; rw [List.take_of_length_le (by rw [HNP.out]; exact Nat.le_refl _), ← HS.out] at e1; exact e1)
      by_cases hgt : m < s
      · have hgi : (m : Int) < (s : Int) := by omega
        go_wp2_with fail
        go_ret
        exact ⟨by rw [HRN.out (by rw [← HE.out]; omega)]; rfl, HQ1.out.trans (HB.out.mono HQ1.out.size)⟩
      · have hgi : ¬ (m : Int) < (s : Int) := by omega
        go_wp2_with fail
        go_ret
        exact ⟨by rw [HRP.out (by rw [← HE.out]; omega), ← HE.out]; rfl, HQ1.out.trans (HB.out.mono HQ1.out.size)⟩
theorem deep_step (l : List PT) (a : PT) : (l ++ [a]).foldl (fun n p => max n (p.deep + 1)) 0 = max (l.foldl (fun n p => max n (p.deep + 1)) 0) (a.deep + 1) := by
  rw [List.foldl_append]; rfl
end Go.Proofs.YtoajckhnneagnaaDoor.Sh
namespace Go.Proofs.YtoajckhnneagnaaDoor.Sh
open Go Go.RowKit

set_option linter.unusedVariables false
set_option linter.unusedSimpArgs false

def encI : Enc (Int × Int) := ⟨2, fun i => [.int .i64 i.1, .int .i64 i.2], by omega, fun _ => rfl, fun x u hu => by simp at hu; rcases hu with rfl | rfl <;> rfl⟩
theorem slI : SlN Tryd.prog 39 27 2 16 := by
  obtain ⟨i0, hi0, hz0, hz1, hz2⟩ := info_parts (P := Tryd.prog) (e := 27) (z := .agg #[.int .i64 0, .int .i64 0]) (size := 2) (bytes := 16) (by kernel_rfl)
  exact ⟨Tryd.underlying39, ⟨i0, _, hi0, hz0, hz1, hz2, rfl⟩, by omega⟩
theorem own_oneI (w : World) (B : Nat) (hB : B ≤ w.heap.size) (d q : Int) : Own (E := encI) (w.alloc (.cells #[.int .i64 d, .int .i64 q] 27)) B 27 (.slice (some ⟨w.heap.size, 0, none⟩) 1 1) [(d, q)] :=
  ⟨rfl, .inr ⟨w.heap.size, 1, _, rfl, hB, heap_alloc_new w _, Nat.le_refl _, by unfold maxLen; omega, rfl, rfl⟩⟩
set_option maxHeartbeats 4000000 in
theorem ids7B_any (p : PT) : ∀ (w : World), p.size ≤ 1000000000 → PIn w w.heap.size p →
    Calls Tryd.prog 40 #[.agg p.cells.toArray] w fun e w' => ∃ A' c', e = .returned (.slice A' p.size c') ∧ Own (E := encI) w' w.heap.size 27 (.slice A' p.size c') p.ids ∧ Below w.heap.size w w' := by
  induction p using PT.ind
  rename_i o n x d q A c ps ih
  intro w hm hp
  have HIH := hid ih
  obtain ⟨S, hS⟩ : ∃ S, (PT.mk o n x d q A c ps).size = S := ⟨_, rfl⟩
  have HS : Hid (S = 1 + (ps.map PT.size).sum) := hid (by rw [← hS, PT.size_eq])
  have HSI : Hid ((PT.mk o n x d q A c ps).ids.length = S) := hid hS
  obtain ⟨I, hI⟩ : ∃ I, (PT.mk o n x d q A c ps).ids = I := ⟨_, rfl⟩
  have HI : Hid (I = (d, q) :: ps.flatMap PT.ids) := hid (by rw [← hI, PT.ids_eq])
  rw [hS] at hm ⊢
  rw [hI] at HSI ⊢
  have HM := hid hm
  obtain ⟨h1, h2, h3, h4⟩ := hp.open'
  obtain ⟨w1, hw1⟩ : ∃ w1, w1 = w.alloc (.cells (PT.mk o n x d q A c ps).cells.toArray 30) := ⟨_, rfl⟩
  have HQ1 : Hid (Below w.heap.size w w1) := hid (by rw [hw1]; exact below_pr w _)
  have HPA : Hid (PrAt w1 w.heap.size (.mk o n x d q A c ps)) := hid (by rw [hw1]; exact PrAt.new w _)
  have HPI := hid h4
  have HEL := hid (h3.below HQ1.out)
  obtain ⟨np, hnp⟩ : ∃ np, ps.length = np := ⟨_, rfl⟩
  have HNP := hid hnp
  have hnp63 : np ≤ 9223372036854775807 := by omega
  have HPA5 := hid (fun W (hW : Below w1.heap.size w1 W) => (HPA.out.kept hW).all)
  rw [hnp] at HPA5
  unfold PT.cells at hw1 ⊢
  simp only [hnp] at hw1 ⊢
  obtain ⟨k0, k1, k2, k3, k4, k5⟩ := HPA5.out _ (Below.refl _ _)
  obtain ⟨w2, hw2⟩ : ∃ w2, w2 = w1.alloc (.cells #[.int .i64 d, .int .i64 q] 27) := ⟨_, rfl⟩
  have HB2 : Hid (Below w1.heap.size w1 w2) := hid (by rw [hw2]; exact (Below.refl _ _).alloc (Nat.le_refl _) _)
  have hz : w1.heap.size = w.heap.size + 1 := by rw [hw1]; simp
  have HO2 : Hid (Own (E := encI) w2 w1.heap.size 27 (.slice (some ⟨w.heap.size + 1, 0, none⟩) 1 1) [(d, q)]) := hid (by rw [hw2, ← hz]; exact own_oneI w1 _ (Nat.le_refl _) d q)
  clear ih hp h1 h2 h3 h4 hnp hS hI hm hz
  go_enter Tryd.func40, Tryd.ntmps40
  go_wp2_with fail
  rw [← hw1]
  clear hw1
  go_wp2_with fail
  rw [← hw2]
  clear hw2 k0 k1 k2 k3 k4 k5
  go_loopw [3, 4] (fun v i wr => ∃ (A' : Option Addr) (s c' j : Nat) (out : List (Int × Int)), v = .slice A' s c' ∧ i = .int .i64 (j : Int) ∧ j ≤ np ∧ s ≤ 1000000000 ∧ Hid (s = out.length) ∧ Hid (out = (d, q) :: (ps.take j).flatMap PT.ids) ∧ Hid (Own (E := encI) wr w1.heap.size 27 (.slice A' s c') out) ∧ Hid (Below w1.heap.size w1 wr)) (fun _ i _ => np - (intOf i).toNat)
  case atStart => exact ⟨_, 1, 1, 0, [(d, q)], rfl, rfl, Nat.zero_le _, by omega, hid rfl, hid (by simp), HO2, HB2⟩
  case round =>
    obtain ⟨A', s, c', j, out, rfl, rfl, hj, hs, HSL, HOU, HOW, HB⟩ := hrel
    obtain ⟨k0, k1, k2, k3, k4, k5⟩ := HPA5.out _ HB.out
    by_cases hlt : j < np
    · obtain ⟨⟨o2, n2, x2, d2, q2, A2, c2, ps2⟩, hx⟩ : ∃ x, ps[j]? = some x := ⟨_, List.getElem?_eq_getElem (by rw [HNP.out]; exact hlt)⟩
      have HX := hid hx
      have HME : Hid (PT.mk o2 n2 x2 d2 q2 A2 c2 ps2 ∈ ps) := hid (List.mem_of_getElem? hx)
      obtain ⟨ad, aj, rfl, hab, ea, hbj, a0, a1, a2, a3, a4, a5⟩ := PIn.get (HEL.out.below (HB.out.mono HQ1.out.size)) hx
      have hj0 : (0 : Int) ≤ (j : Int) := Int.natCast_nonneg _
      have hj1 : (j : Int) < (np : Int) := by omega
      have HPN := hid (fun W (hW : Below w1.heap.size w1 W) => (HPI.out _ HME.out).now (HQ1.out.trans (hW.mono HQ1.out.size)))
      clear hx hab hbj
      have hz1000 : (PT.mk o2 n2 x2 d2 q2 A2 c2 ps2).size ≤ 1000000000 := by have e1 := HM.out; have e2 := sum_split HX.out; have e3 := HS.out; omega
      have HCA := hid (HIH.out _ HME.out wr hz1000 (HPN.out _ HB.out))
      unfold PT.cells at HCA
      simp only at HCA
      obtain ⟨z, hz⟩ : ∃ z, (PT.mk o2 n2 x2 d2 q2 A2 c2 ps2).size = z := ⟨_, rfl⟩
      have HT : Hid (out ++ (PT.mk o2 n2 x2 d2 q2 A2 c2 ps2).ids = (d, q) :: (ps.take (j + 1)).flatMap PT.ids) := hid (by rw [take_snoc_of HX.out, List.flatMap_append, HOU.out]; simp)
      have HSZ : Hid (s + z ≤ 1000000000) := hid (by
        have e1 := HM.out
        have e2 := HS.out
        have e3 := sum_split HX.out
        have e4 : s = 1 + ((ps.take j).map PT.size).sum := by
          rw [HSL.out, HOU.out, List.length_cons, List.length_flatMap, Nat.add_comm]
          rfl
        omega)
      obtain ⟨J, hJ⟩ : ∃ J, (PT.mk o2 n2 x2 d2 q2 A2 c2 ps2).ids = J := ⟨_, rfl⟩
      have HJL : Hid (J.length = z) := hid (by rw [← hJ]; exact hz)
      rw [hz, hJ] at HCA
      rw [hJ] at HT
      clear hz hJ hz1000
      go_wp2_with fail
      refine HCA.out.mono ?_
      rintro er w3 ⟨A3, c3, rfl, ho3, hb3⟩
      have HB3 := hid (HB.out.trans (hb3.mono HB.out.size))
      have HOW3 := hid (HOW.out.below hb3)
      have HR3 := hid (own_els ho3).reads
      have hb : out.length + z ≤ 1000000000000 := by have := HSZ.out; have := HSL.out; omega
      have hbs : w1.heap.size ≤ w3.heap.size := HB3.out.size
      clear hb3 ho3 HCA k0 k1 k2 k3 k4 k5 a0 a1 a2 a3 a4 a5
      go_wp2_with ((at_builtin; refine wpList_appL (E := encI) rfl slI (.tmp 15) (.tmp 21) rfl (B := w1.heap.size) (v := .slice A' s c') (l := out) HOW3.out rfl (A := A3) (m := z) (c := c3) J rfl HJL.out HR3.out hb (by omega) hbs ?_; intro A5 c5 w5 o5 g5 e5))
      rw [← HSL.out] at o5 ⊢
      have HB5 := hid (HB3.out.grown g5 hbs (fun g e => (HOW3.out.lt g e).1))
      have HO5 := hid o5
      clear g5 e5 o5
      go_wp2_with fail
      go_roundw
      case rel => exact ⟨A5, s + z, c5, j + 1, out ++ J, rfl, by go_num, by omega, HSZ.out, hid (by rw [List.length_append, HJL.out, HSL.out]), HT, HO5, HB5⟩
      case measure => simp [intOf]; omega
    · obtain rfl : j = np := by omega
      have HE : Hid (out = I) := hid (by rw [HOU.out, HI.out, List.take_of_length_le (by rw [HNP.out]; exact Nat.le_refl _)])
      have HSE : Hid (s = S) := hid (by rw [HSL.out, HE.out]; exact HSI.out)
      have e1 := HE.out
      have e2 := HSE.out
      subst e1 e2
      go_wp2_with fail
      go_ret
      exact ⟨A', c', rfl, own_mono' HOW.out HQ1.out.size, HQ1.out.trans (HB.out.mono HQ1.out.size)⟩
end Go.Proofs.YtoajckhnneagnaaDoor.Sh
namespace Go.Proofs.YtoajckhnneagnaaDoor.Sh
open Go Go.RowKit

set_option linter.unusedVariables false
set_option linter.unusedSimpArgs false

end Go.Proofs.YtoajckhnneagnaaDoor.Sh
namespace Go.Proofs.YtoajckhnneagnaaDoor.Sh
open Go Go.RowKit

set_option linter.unusedVariables false
set_option linter.unusedSimpArgs false

end Go.Proofs.YtoajckhnneagnaaDoor.Sh
