/-
  The document's own Sorted.
-/
import Derived.Test.YtkimhdcngagmaaaJa10
import Derived.Test.YtkimhdcngagmaaaJa1
import Derived.Deep.RegionLaw
import Derived.Shelf.Abstract
set_option linter.unusedVariables false
set_option linter.unusedSimpArgs false
namespace Go.Proofs.Ytkimhdcngagmaaa.Sh
open Go Go.RowKit

theorem FarV.step {w : World} {A : Option Addr} {n c B m : Nat} {V U : Value} {out : List Crd} (h5 : (Value.slice A n c).ownBlock = U.ownBlock ∨ (Value.slice A n c).ownBlock = some w.heap.size) (hn : V.ownBlock = none ∨ V.ownBlock ≠ U.ownBlock) (hV : OwnC w B V m out) : FarV A V := fun ad e => by
  subst e
  have hs : (Value.slice (some ad) n c).ownBlock = some ad.block := rfl
  rw [hs] at h5
  rcases h5 with h | h
  · rcases hn with h2 | h2
    · rw [h2]; simp
    · rw [h]; exact fun e => h2 e.symm
  · intro e
    have := (hV.lt _ e.symm).2
    injection h with h
    omega
theorem beforeI_bef (a b : Crd) : beforeI a.d a.q b.d b.q = bef a b := rfl
set_option maxHeartbeats 16000000 in
theorem refSorted_any (A : Option Addr) (all : List Crd) (n c : Nat) (hn : all.length = n) (hc : n ≤ c) (hc2 : c ≤ 9223372036854775807) (hm : n ≤ 100000000) (w : World) (h : Crs w w.heap.size A all) :
    Calls Try.prog 42 #[.slice A n c] w fun e w' => ∃ A' c' out, e = .returned (.slice A' n c') ∧ OwnC w' w.heap.size (.slice A' n c') n out ∧ SortOf out all ∧ Below w.heap.size w w' := by
  go_enter Try.func42, Try.ntmps42
  go_wp2
  go_loopw [0, 3] (fun x o wr => ∃ (Al : Option Addr) (nl cl : Nat) (l : List Crd) (vo : Value) (no : Nat) (out : List Crd), x = .slice Al nl cl ∧ o = vo ∧ Hid (FarV Al vo) ∧ nl ≤ cl ∧ cl ≤ 9223372036854775807 ∧ no + nl = n ∧ Hid (l.length = nl) ∧ Hid (Crs wr wr.heap.size Al l) ∧ Hid (OwnC wr w.heap.size vo no out) ∧ Hid (Sel out l all) ∧ Hid (Below w.heap.size w wr)) (fun x _ _ => lenV x)
  case atStart => exact ⟨A, n, c, all, _, 0, [], rfl, rfl, hid (FarV.nil _), hc, hc2, by omega, hid hn, hid h, hid (OwnC.nil _ _), hid (sel_start all), hid (Below.refl _ _)⟩
  case round =>
    obtain ⟨Al, nl, cl, l, vo, no, out, rfl, rfl, HFAR, hcl, hcl2, hno, HLN, HCR, HOW, HSEL, HBEL⟩ := hrel
    obtain ⟨Ao, co, hvo, hco⟩ := HOW.out.slice
    subst hvo
    obtain ⟨wo, hwo⟩ : ∃ x, x = wr := ⟨_, rfl⟩
    subst hwo
    by_cases hpos : 0 < nl
    · have hpos' : (0 : Int) < (nl : Int) := by omega
      go_wp2
      go_loopw [4, 5] (fun x i wq => ∃ k m : Nat, x = .int .i64 (m : Int) ∧ i = .int .i64 (k : Int) ∧ 1 ≤ k ∧ k ≤ nl ∧ m < k ∧ Hid (Least l k m) ∧ Hid (Below wo.heap.size wo wq)) (fun _ i _ => nl - (intOf i).toNat)
      case atStart =>
        obtain ⟨c0, hc0⟩ : ∃ x, l[0]? = some x := ⟨_, List.getElem?_eq_getElem (by rw [HLN.out]; exact hpos)⟩
        exact ⟨1, 0, rfl, rfl, by omega, by omega, by omega, hid (least_one hc0), hid (Below.refl _ _)⟩
      case round =>
        obtain ⟨k, m, rfl, rfl, hk1, hkn, hmk, HLE, HB⟩ := hrel
        by_cases hlt : k < nl
        · obtain ⟨ck, hck⟩ : ∃ x, l[k]? = some x := ⟨_, List.getElem?_eq_getElem (by rw [HLN.out]; exact hlt)⟩
          obtain ⟨cm, hcm⟩ : ∃ x, l[m]? = some x := ⟨_, List.getElem?_eq_getElem (by rw [HLN.out]; omega)⟩
          have YC := (HCR.out.below HB.out)
          obtain ⟨ad, ak, rfl, hadb, ek, hkb, a0, a1, -⟩ := YC.get hck
          obtain ⟨bd, am, he, -, em, hmb, b0, b1, -⟩ := YC.get hcm
          injection he with he
          subst he
          have hkl : (k : Int) < (nl : Int) := by omega
          have hml : (m : Int) < (nl : Int) := by omega
          have hk0 : (0 : Int) ≤ (k : Int) := Int.natCast_nonneg _
          have hm0 : (0 : Int) ≤ (m : Int) := Int.natCast_nonneg _
          obtain ⟨b, hb⟩ : ∃ b, bef ck cm = b := ⟨_, rfl⟩
          have HBF := hid (fun w => hb ▸ beforeI_bef ck cm ▸ refBefore_any ck.d ck.q cm.d cm.q w)
          have HBB := hid hb
          have HCK := hid hck
          have HCM := hid hcm
          obtain ⟨dk, hdk⟩ : ∃ z, ck.d = z := ⟨_, rfl⟩
          obtain ⟨qk, hqk⟩ : ∃ z, ck.q = z := ⟨_, rfl⟩
          obtain ⟨dm, hdm⟩ : ∃ z, cm.d = z := ⟨_, rfl⟩
          obtain ⟨qm, hqm⟩ : ∃ z, cm.q = z := ⟨_, rfl⟩
          rw [hdk] at HBF a0
          rw [hqk] at HBF a1
          rw [hdm] at HBF b0
          rw [hqm] at HBF b1
          have hwr := HB.out.size
          have HK := hid (fun W (hW : Below wr.heap.size wr W) => (⟨(hW.cell (by rw [hkb]; omega)).trans a0, (hW.cell (p := ⟨ak.block, ak.off + 1, none⟩) (by show ak.block < _; rw [hkb]; omega)).trans a1, (hW.cell (by rw [hmb]; omega)).trans b0, (hW.cell (p := ⟨am.block, am.off + 1, none⟩) (by show am.block < _; rw [hmb]; omega)).trans b1⟩ :
            W.cell? ak = some (.int .i64 dk) ∧ W.cell? ⟨ak.block, ak.off + 1, none⟩ = some (.int .i64 qk) ∧ W.cell? am = some (.int .i64 dm) ∧ W.cell? ⟨am.block, am.off + 1, none⟩ = some (.int .i64 qm)))
          have HD := hid (Below.refl wr.heap.size wr).drew
          clear YC hck hcm hb hdk hqk hdm hqm a0 a1 b0 b1 hkb hmb hadb hwr
          go_wp2_with fail
          go_region_held3 (fun W => W.cell? ak = some (.int .i64 dk) ∧ W.cell? ⟨ak.block, ak.off + 1, none⟩ = some (.int .i64 qk) ∧ W.cell? am = some (.int .i64 dm) ∧ W.cell? ⟨am.block, am.off + 1, none⟩ = some (.int .i64 qm)) (first | exact HK.out _ B1.out | exact HK.out _ HD.out | go_keep) (first
            | (go_at_call 51; (refine (HBF.out _).mono ?_); rintro er w5 ⟨rfl, bb⟩; have B1 := hid (kept_trans HD.out HD.out.size bb); clear bb)
            | fail)
          all_goals
            have HB5 : Hid (Below wo.heap.size wo w5) := hid (HB.out.trans (B1.out.mono HB.out.size))
            cases b with
            | true =>
              have HL2 := hid (least_take HLE.out HCM.out HCK.out HBB.out)
              go_wp2
              go_roundw
              case rel => exact ⟨k + 1, k, rfl, by go_num, by omega, by omega, by omega, HL2, HB5⟩
              case measure => simp [intOf]; omega
            | false =>
              have HL2 := hid (least_keep HLE.out HCM.out HCK.out HBB.out)
              go_wp2
              go_roundw
              case rel => exact ⟨k + 1, m, rfl, by go_num, by omega, by omega, by omega, HL2, HB5⟩
              case measure => simp [intOf]; omega
        · obtain rfl : k = nl := by omega
          obtain ⟨⟨d1, q1, nm, kd, wh, ao, an, bo, bn⟩, hcm⟩ : ∃ x, l[m]? = some x := ⟨_, List.getElem?_eq_getElem (by rw [HLN.out]; omega)⟩
          have YC := (HCR.out.below HB.out)
          obtain ⟨ad, am, rfl, hadb, em, -, a0, a1, a2, a3, a4, a5, a6, a7, a8⟩ := YC.get hcm
          have hml : (m : Int) < (k : Int) := by omega
          have hm0 : (0 : Int) ≤ (m : Int) := Int.natCast_nonneg _
          have hmc : (m : Int) ≤ (cl : Int) := by omega
          have hm1 : (m : Int) + 1 ≤ (k : Int) := by omega
          have O1 := HOW.out.below HB.out
          have B1 := HBEL.out.trans (HB.out.mono HBEL.out.size)
          have hs1 := HB.out.size
          have Y1 := YC.below ((Below.refl wr.heap.size wr).alloc (Nat.le_refl _) (.cells (Crd.cells ⟨d1, q1, nm, kd, wh, ao, an, bo, bn⟩).toArray 53) |>.mono hs1)
          have hs2 := le_alloc hs1 (.cells (Crd.cells ⟨d1, q1, nm, kd, wh, ao, an, bo, bn⟩).toArray 53)
          have HSL := hid (sel_step HSEL.out (by rw [HLN.out]; exact HLE.out) hcm)
          clear hcm YC
          have Q1 : Hid (no + 1 ≤ 1000000000000) := hid (by omega)
          have Q2 : Hid ((l.take m).length = m) := hid (by rw [List.length_take, HLN.out]; omega)
          have Q3 : Hid (0 + m ≤ 1000000000000) := hid (by omega)
          have Q4 : Hid (0 + m = m) := hid (by omega)
          by_cases hcl1 : cl = m + 1
          · obtain rfl : k = m + 1 := by omega
            have HD0 : Hid (l.drop (m + 1) = []) := hid (List.drop_of_length_le (by rw [HLN.out]; exact Nat.le_refl _))
            rw [HD0.out] at HSL
            have Q5 : Hid ((l.take m ++ []).length = m) := hid (by rw [List.append_nil]; exact Q2.out)
            have Q6 : Hid (m + 0 ≤ 1000000000000) := hid (by omega)
            go_wp2_with (first
              | (at_builtin; refine wpList_appC rfl (.tmp 28) (.tmp 33) rfl w.heap.size (.slice Ao no co) no out (OwnC.alloc O1 _) rfl (some ⟨wr.heap.size, 0, none⟩) 1 1 [⟨d1, q1, nm, kd, wh, ao, an, bo, bn⟩] rfl rfl (reads_cr wr _ _ _) Q1.out (le_alloc B1.size _) w (B1.alloc B1.size _) (no + 1) rfl ?_; intro A3 c3 w3 o3 g3 b3 h3; have Y3 := Y1.far hs2 g3 HFAR.out; have hs3 := Nat.le_trans hs2 g3.size; clear O1 B1 Y1)
              | (at_builtin; refine wpList_appC rfl (.tmp 35) (.tmp 38) rfl w.heap.size (.slice none 0 0) 0 [] (OwnC.nil _ _) ?c1 (some ad) m (m + 1) (l.take m) ?c2 ?c3 ?c4 ?c5 ?c6 w ?c7 m ?c8 ?c9; (case c1 => rfl); (case c2 => rfl); (case c3 => exact Q2.out); (case c4 => exact (Y3.head (hi := m)).reads); (case c5 => exact Q3.out); (case c6 => exact b3.size); (case c7 => exact b3); (case c8 => exact Q4.out); (intro A4 c4 w4 o4 g4 b4 h4; have HO3 := hid (o3.keptBy (u := .slice none 0 0) g4 (o3.newer (.inl rfl))); have Y4 := Y3.far hs3 g4 (FarV.nil _); have HN4 := hid (o3.newer (u := .slice A4 m c4) (h4.imp id id)); clear o3 Y3))
              | (at_builtin; have R5 : Reads w4 (some ad) (cv ([])) := (fun h => absurd h (by simp [cv])); refine wpList_appC rfl (.tmp 40) (.tmp 44) rfl w.heap.size (.slice A4 m c4) m ([] ++ l.take m) o4 ?d1 (some ad) (0) (0) ([]) ?d2 ?d3 R5 ?d5 ?d6 w ?d7 (m) ?d8 ?d9; (case d1 => rfl); (case d2 => rfl); (case d3 => exact rfl); (case d5 => exact Q6.out); (case d6 => exact b4.size); (case d7 => exact b4); (case d8 => exact rfl); (intro A5 c5 w5 o5 g5 b5 h5; have HO5 := hid (HO3.out.keptBy g5 HN4.out); have HF5 := hid (FarV.step h5 HN4.out HO3.out); have HP5 := hid o5; have HB5 := hid b5; clear R5 Y4 o4 b4 g5 g4 h4 h5 o5 b5)))
            have hcap := HP5.out.slice
            obtain ⟨_, cc, e5, hcap1, hcap2⟩ := hcap
            simp only [Value.slice.injEq] at e5
            obtain ⟨-, -, rfl⟩ := e5
            have HP6 := hid HP5.out.crs
            go_roundw
            case rel => exact ⟨A5, m, c5, l.take m ++ [], .slice A3 (no + 1) c3, no + 1, _, rfl, rfl, HF5, hcap1, hcap2, by omega, Q5, HP6, HO5, HSL, HB5⟩
            case measure => simp [lenV] <;> omega
          · have Q5 : Hid ((l.take m ++ l.drop (m + 1)).length = k - 1) := hid (by rw [List.length_append, List.length_take, List.length_drop, HLN.out]; omega)
            have Q6 : Hid (m + (k - (m + 1)) ≤ 1000000000000) := hid (by omega)
            have Q7 : Hid (m + (k - (m + 1)) = k - 1) := hid (by omega)
            have Q8 : Hid ((l.drop (m + 1)).length = k - (m + 1)) := hid (by rw [List.length_drop, HLN.out])
            have Q9 : Hid (l.length ≤ cl) := hid (by rw [HLN.out]; omega)
            go_wp2_with (first
              | (at_builtin; refine wpList_appC rfl (.tmp 28) (.tmp 33) rfl w.heap.size (.slice Ao no co) no out (OwnC.alloc O1 _) rfl (some ⟨wr.heap.size, 0, none⟩) 1 1 [⟨d1, q1, nm, kd, wh, ao, an, bo, bn⟩] rfl rfl (reads_cr wr _ _ _) Q1.out (le_alloc B1.size _) w (B1.alloc B1.size _) (no + 1) rfl ?_; intro A3 c3 w3 o3 g3 b3 h3; have Y3 := Y1.far hs2 g3 HFAR.out; have hs3 := Nat.le_trans hs2 g3.size; clear O1 B1 Y1)
              | (at_builtin; refine wpList_appC rfl (.tmp 35) (.tmp 38) rfl w.heap.size (.slice none 0 0) 0 [] (OwnC.nil _ _) ?f1 (some ad) m (cl) (l.take m) ?f2 ?f3 ?f4 ?f5 ?f6 w ?f7 m ?f8 ?f9; (case f1 => rfl); (case f2 => rfl); (case f3 => exact Q2.out); (case f4 => exact (Y3.head (hi := m)).reads); (case f5 => exact Q3.out); (case f6 => exact b3.size); (case f7 => exact b3); (case f8 => exact Q4.out); (intro A4 c4 w4 o4 g4 b4 h4; have HO3 := hid (o3.keptBy (u := .slice none 0 0) g4 (o3.newer (.inl rfl))); have Y4 := Y3.far hs3 g4 (FarV.nil _); have HN4 := hid (o3.newer (u := .slice A4 m c4) (h4.imp id id)); clear o3 Y3))
              | (at_builtin; refine wpList_appC rfl (.tmp 40) (.tmp 44) rfl w.heap.size (.slice A4 m c4) m ([] ++ l.take m) o4 ?g1 (some (ad.add ((m + 1) * 9))) (k - (m + 1)) (cl - (m + 1)) (l.drop (m + 1)) ?g2 ?g3 ?g4 ?g5 ?g6 w ?g7 (k - 1) ?g8 ?g9; (case g1 => rfl); (case g2 => rfl); (case g3 => exact Q8.out); (case g4 => (have h7 := (Y4.tail (lo := m + 1) (cap := cl) Q9.out).reads; rw [if_neg hcl1] at h7; exact h7)); (case g5 => exact Q6.out); (case g6 => exact b4.size); (case g7 => exact b4); (case g8 => exact Q7.out); (intro A5 c5 w5 o5 g5 b5 h5; have HO5 := hid (HO3.out.keptBy g5 HN4.out); have HF5 := hid (FarV.step h5 HN4.out HO3.out); have HP5 := hid o5; have HB5 := hid b5; clear Y4 o4 b4 g5 g4 h4 h5 o5 b5)))
            have hcap := HP5.out.slice
            obtain ⟨_, cc, e5, hcap1, hcap2⟩ := hcap
            simp only [Value.slice.injEq] at e5
            obtain ⟨-, -, rfl⟩ := e5
            have HP6 := hid HP5.out.crs
            go_roundw
            case rel => exact ⟨A5, k - 1, c5, l.take m ++ l.drop (m + 1), .slice A3 (no + 1) c3, no + 1, _, rfl, rfl, HF5, hcap1, hcap2, by omega, Q5, HP6, HO5, HSL, HB5⟩
            case measure => simp [lenV] <;> omega
    · obtain rfl : nl = 0 := by omega
      obtain rfl : no = n := by omega
      have hl0 := HLN.out
      obtain rfl : l = [] := List.eq_nil_of_length_eq_zero hl0
      have HS := hid (sel_end HSEL.out)
      clear hl0
      go_wp2
      go_ret
      exact ⟨Ao, co, out, rfl, HOW.out, HS.out, HBEL.out⟩
end Go.Proofs.Ytkimhdcngagmaaa.Sh
/-
  The document's own Counts.
-/
namespace Go.Proofs.Ytkimhdcngagmaaa.Sh
open Go Go.RowKit

set_option maxHeartbeats 1000000 in
theorem refCounts_any (A : Option Addr) (all : List Crd) (n c : Nat) (hn : all.length = n) (hm : n ≤ 100000000) (w : World) (h : Crs w w.heap.size A all) :
    Calls Try.prog 36 #[.slice A n c] w fun e w' => ∃ A' n' c' out, e = .returned (.slice A' n' c') ∧ n' ≤ n ∧ OwnC w' w.heap.size (.slice A' n' c') n' out ∧ CountsOf out all ∧ Below w.heap.size w w' := by
  have HN := hid hn
  clear hn
  go_enter Try.func36, Try.ntmps36
  go_wp2
  go_loopw [3, 4] (fun o i wr => ∃ (Ao : Option Addr) (no co k : Nat) (out : List Crd), o = .slice Ao no co ∧ i = .int .i64 (k : Int) ∧ k ≤ n ∧ no ≤ k ∧ Hid (OwnC wr w.heap.size (.slice Ao no co) no out) ∧ Hid (Kept out all k) ∧ Hid (Below w.heap.size w wr)) (fun _ i _ => n - (intOf i).toNat)
  case atStart => exact ⟨none, 0, 0, 0, [], rfl, rfl, by omega, by omega, hid (OwnC.nil _ _), hid (kept_start all), hid (Below.refl _ _)⟩
  case round =>
    obtain ⟨Ao, no, co, k, out, rfl, rfl, hk, hno, HOW, HKE, HBEL⟩ := hrel
    obtain ⟨wo, hwo⟩ : ∃ x, x = wr := ⟨_, rfl⟩
    subst hwo
    by_cases hlt : k < n
    · obtain ⟨⟨d1, q1, nm, kd, wh, ao, an, bo, bn⟩, hck⟩ : ∃ x, all[k]? = some x := ⟨_, List.getElem?_eq_getElem (by rw [HN.out]; exact hlt)⟩
      have YC := h.below HBEL.out
      obtain ⟨ad, ak, rfl, hadb, ek, hkb, a0, a1, a2, a3, a4, a5, a6, a7, a8⟩ := YC.get hck
      have hkl : (k : Int) < (n : Int) := by omega
      have hk0 : (0 : Int) ≤ (k : Int) := Int.natCast_nonneg _
      obtain ⟨b, hb⟩ : ∃ b, mayC ⟨d1, q1, nm, kd, wh, ao, an, bo, bn⟩ = b := ⟨_, rfl⟩
      have HM := hid (fun w => hb ▸ refMayC_any ⟨d1, q1, nm, kd, wh, ao, an, bo, bn⟩ w)
      have HBM := hid hb
      have HCK := hid hck
      unfold Crd.cells at HM
      simp only at HM a0 a1 a2 a3 a4 a5 a6 a7 a8
      have HY := hid YC
      have HKB := hid hkb
      have HAB : Hid (ad.block < wo.heap.size) := hid (Nat.lt_of_lt_of_le hadb HBEL.out.size)
      clear hb hck YC hkb hadb
      go_wp2_with fail
      refine (HM.out _).mono ?_
      rintro er w2 ⟨rfl, bb⟩
      have HO2 := hid (HOW.out.below bb)
      have HB2 := hid (HBEL.out.trans (bb.mono HBEL.out.size))
      have HY2 := hid (HY.out.below (bb.mono HBEL.out.size))
      have HK01 := hid (fun W (hW : Below wo.heap.size wo W) => (⟨(hW.cell (by rw [HKB.out]; exact HAB.out)).trans a0, (hW.cell (p := ⟨ak.block, ak.off + 1, none⟩) (by show ak.block < _; rw [HKB.out]; exact HAB.out)).trans a1, (hW.cell (p := ⟨ak.block, ak.off + 2, none⟩) (by show ak.block < _; rw [HKB.out]; exact HAB.out)).trans a2,
        (hW.cell (p := ⟨ak.block, ak.off + 3, none⟩) (by show ak.block < _; rw [HKB.out]; exact HAB.out)).trans a3, (hW.cell (p := ⟨ak.block, ak.off + 4, none⟩) (by show ak.block < _; rw [HKB.out]; exact HAB.out)).trans a4, (hW.cell (p := ⟨ak.block, ak.off + 5, none⟩) (by show ak.block < _; rw [HKB.out]; exact HAB.out)).trans a5,
        (hW.cell (p := ⟨ak.block, ak.off + 6, none⟩) (by show ak.block < _; rw [HKB.out]; exact HAB.out)).trans a6, (hW.cell (p := ⟨ak.block, ak.off + 7, none⟩) (by show ak.block < _; rw [HKB.out]; exact HAB.out)).trans a7, (hW.cell (p := ⟨ak.block, ak.off + 8, none⟩) (by show ak.block < _; rw [HKB.out]; exact HAB.out)).trans a8⟩ :
        W.cell? ak = some (.int .i64 d1) ∧ W.cell? ⟨ak.block, ak.off + 1, none⟩ = some (.int .i64 q1) ∧ W.cell? ⟨ak.block, ak.off + 2, none⟩ = some (.string nm) ∧ W.cell? ⟨ak.block, ak.off + 3, none⟩ = some (.int .i64 kd) ∧ W.cell? ⟨ak.block, ak.off + 4, none⟩ = some (.string wh) ∧
        W.cell? ⟨ak.block, ak.off + 5, none⟩ = some (.string ao) ∧ W.cell? ⟨ak.block, ak.off + 6, none⟩ = some (.string an) ∧ W.cell? ⟨ak.block, ak.off + 7, none⟩ = some (.string bo) ∧ W.cell? ⟨ak.block, ak.off + 8, none⟩ = some (.string bn)))
      have HBB := hid bb
      clear bb a0 a1 a2 a3 a4 a5 a6 a7 a8
      go_wp2
      go_loopw [6, 7] (fun x i wq => ∃ (t : Bool) (j : Nat), x = .bool t ∧ i = .int .i64 (j : Int) ∧ j ≤ no ∧ Hid (t = true ↔ ∃ y ∈ out.take j, y.d = d1 ∧ y.q = q1) ∧ Hid (∃ q, wq = w2.drewN q)) (fun _ i _ => no - (intOf i).toNat)
      case atStart => exact ⟨false, 0, rfl, rfl, by omega, hid (by simp), hid ⟨0, rfl⟩⟩
      case round =>
        obtain ⟨t, j, rfl, rfl, hj, HT, HW⟩ := hrel
        by_cases hlj : j < no
        · obtain ⟨⟨d2, q2, nm2, kd2, wh2, ao2, an2, bo2, bn2⟩, hoj⟩ : ∃ x, out[j]? = some x := ⟨_, List.getElem?_eq_getElem (by rw [HO2.out.len]; exact hlj)⟩
          have hjl : (j : Int) < (no : Int) := by omega
          have hj0 : (0 : Int) ≤ (j : Int) := Int.natCast_nonneg _
          have hwr : Below w2.heap.size w2 wr := by obtain ⟨q, rfl⟩ := HW.out; exact below_drewN (Below.refl _ _) q
          obtain ⟨bd, bj, rfl, -, eb, -, b0, b1, -⟩ := (HO2.out.crs.below hwr).get hoj
          obtain ⟨a0, a1, -⟩ := HK01.out wr (HBB.out.trans (hwr.mono HBB.out.size))
          have HT2 : Hid ((∃ y ∈ out.take (j + 1), y.d = d1 ∧ y.q = q1) ↔ (t = true ∨ (d2 = d1 ∧ q2 = q1))) := hid (by
            rw [take_snoc_of hoj]
            constructor
            · rintro ⟨y, hy, h1⟩
              rcases List.mem_append.1 hy with h2 | h2
              · exact .inl (HT.out.2 ⟨y, h2, h1⟩)
              · rw [List.mem_singleton.1 h2] at h1; exact .inr h1
            · rintro (h1 | h1)
              · obtain ⟨y, hy, h2⟩ := HT.out.1 h1
                exact ⟨y, List.mem_append.2 (.inl hy), h2⟩
              · exact ⟨_, List.mem_append.2 (.inr (List.mem_singleton.2 rfl)), h1⟩)
          clear hoj hwr
          cases t with
          | true =>
            go_wp2_with fail
            go_quiet (fail)
            go_wp2
            go_roundw
            case rel => exact ⟨true, j + 1, rfl, by go_num, by omega, hid (by rw [HT2.out]; simp), by
              obtain ⟨q, rfl⟩ := HW.out
              exact hid ⟨q + nq, World.drewN_drewN _ _ _⟩⟩
            case measure => simp [intOf]; omega
          | false =>
            by_cases hd : d2 = d1
            · subst hd
              by_cases hq : q2 = q1
              · subst hq
                go_wp2_with fail
                go_quiet (fail)
                go_wp2
                go_roundw
                case rel => exact ⟨true, j + 1, rfl, by go_num, by omega, hid (by rw [HT2.out]; simp), by
                  obtain ⟨q, rfl⟩ := HW.out
                  exact hid ⟨q + nq, World.drewN_drewN _ _ _⟩⟩
                case measure => simp [intOf]; omega
              · have hqb : (q2 == q1) = false := beq_eq_false_iff_ne.2 hq
                have HQ := hid hq
                go_wp2_with fail
                go_quiet (fail)
                go_wp2
                go_roundw
                case rel => exact ⟨false, j + 1, rfl, by go_num, by omega, hid (by rw [HT2.out]; simp [HQ.out]), by
                  obtain ⟨q, rfl⟩ := HW.out
                  exact hid ⟨q + nq, World.drewN_drewN _ _ _⟩⟩
                case measure => simp [intOf]; omega
            · have hdb : (d2 == d1) = false := beq_eq_false_iff_ne.2 hd
              have HQ := hid hd
              go_wp2_with fail
              go_quiet (fail)
              go_wp2
              go_roundw
              case rel => exact ⟨false, j + 1, rfl, by go_num, by omega, hid (by rw [HT2.out]; simp [HQ.out]), by
                obtain ⟨q, rfl⟩ := HW.out
                exact hid ⟨q + nq, World.drewN_drewN _ _ _⟩⟩
              case measure => simp [intOf]; omega
        · obtain rfl : no = j := by omega
          have hlen := HO2.out.len
          have HT2 : Hid (t = true ↔ ∃ y ∈ out, y.d = d1 ∧ y.q = q1) := hid (by have := HT.out; rwa [List.take_of_length_le (by omega)] at this)
          have hwr : Below w2.heap.size w2 wr := by obtain ⟨q, rfl⟩ := HW.out; exact below_drewN (Below.refl _ _) q
          have o3 := HO2.out.below hwr
          have b3 := HB2.out.trans (hwr.mono HB2.out.size)
          obtain ⟨a0, a1, a2, a3, a4, a5, a6, a7, a8⟩ := HK01.out wr (HBB.out.trans (hwr.mono HBB.out.size))
          clear hlen hwr HT
          cases b with
          | false =>
            have HK2 := hid (kept_skip HKE.out HCK.out (.inl HBM.out))
            have HO3 := hid o3
            have HB3 := hid b3
            clear o3 b3
            go_wp2
            go_roundw
            case rel => exact ⟨Ao, no, co, k + 1, out, rfl, by go_num, by omega, by omega, HO3, HK2, HB3⟩
            case measure => simp [intOf]; omega
          | true =>
            cases t with
            | true =>
              have HK2 := hid (kept_skip HKE.out HCK.out (.inr (HT2.out.1 rfl)))
              have HO3 := hid o3
              have HB3 := hid b3
              clear o3 b3
              go_wp2
              go_roundw
              case rel => exact ⟨Ao, no, co, k + 1, out, rfl, by go_num, by omega, by omega, HO3, HK2, HB3⟩
              case measure => simp [intOf]; omega
            | false =>
              have HK2 := hid (kept_take HKE.out HCK.out HBM.out (fun x hx he => by have := HT2.out.2 ⟨x, hx, he⟩; cases this))
              have Q1 : Hid (no + 1 ≤ 1000000000000) := hid (by omega)
              go_wp2_with ((at_builtin; refine wpList_appC rfl (.tmp 44) (.tmp 49) rfl w.heap.size (.slice Ao no co) no out (OwnC.alloc o3 _) rfl (some ⟨wr.heap.size, 0, none⟩) 1 1 [⟨d1, q1, nm, kd, wh, ao, an, bo, bn⟩] rfl rfl (reads_cr wr _ _ _) Q1.out (le_alloc b3.size _) w (b3.alloc b3.size _) (no + 1) rfl ?_; intro A4 c4 w4 o4 g4 b4 h4; have HO4 := hid o4; have HB4 := hid b4; clear o3 b3 o4 b4 g4 h4))
              go_roundw
              case rel => exact ⟨A4, no + 1, c4, k + 1, _, rfl, by go_num, by omega, by omega, HO4, HK2, HB4⟩
              case measure => simp [intOf]; omega
    · obtain rfl : n = k := by omega
      have HS := hid (refSorted_any Ao out no co HOW.out.len (by obtain ⟨_, _, e, h1, _⟩ := HOW.out.slice; injection e with _ _ e; omega) (by obtain ⟨_, _, e, _, h1⟩ := HOW.out.slice; injection e with _ _ e; omega) (by omega) wo HOW.out.crs)
      go_wp2_with fail
      refine HS.out.mono ?_
      rintro er w2 ⟨A2, c2, out2, rfl, o2, s2, bb⟩
      have HR : Hid (CountsOf out2 all) := hid (kept_end (by rw [HN.out]; exact HKE.out) s2)
      have HO2 := hid (o2.mono HBEL.out.size)
      have HB2 := hid (HBEL.out.trans (bb.mono HBEL.out.size))
      clear o2 s2 bb
      go_wp2
      go_ret
      exact ⟨A2, no, c2, out2, rfl, hno, HO2.out, HR.out, HB2.out⟩
end Go.Proofs.Ytkimhdcngagmaaa.Sh
/-
  A call of a Go function by its contract, as one step of a region that draws.
-/
namespace Go.Proofs.Ytkimhdcngagmaaa.Sh
open Go Go.RowKit

set_option linter.unusedSimpArgs false
set_option linter.unusedVariables false
theorem step_callG {P : Program} {ops : Array Oper} {o : Oper} {a : Act} {w : World} {K : Act → World → Prop} {Q : Exit → Act → World → Prop} {E : Prop} (hg : o.guard = none) {f : FuncId} {xs : Array Operand} {ts : Array TypeId}
    (hop : o.op = .call { callee := .value (.func f), args := xs, argTypes := ts }) (args : Array Value) (hx : xs.map a.eval = args) {R : Ending → World → Prop} (hC : Calls P f args w R)
    (he : ∀ args w, (callFunc f args).run P w = .ok (.enter f args) w)
    (h : ∀ e w', R e w' → ∃ v, e = .returned v ∧ K (a.put o.dst v) w') :
    if Region.wanted o (yielded ops a.tmps) = true then Oper.wp P o a w K Q else E := by
  have hw : Region.wanted o (yielded ops a.tmps) = true := by simp [Region.wanted, hg]
  rw [if_pos hw]
  unfold Oper.wp
  simp [execOp, hop, resolve, invoke, Result.andThen, hx, Deferred.ofValue, Act.eval, he]
  refine hC.mono fun e w' hr => ?_
  obtain ⟨v, rfl, hk⟩ := h e w' hr
  exact hk
end Go.Proofs.Ytkimhdcngagmaaa.Sh
