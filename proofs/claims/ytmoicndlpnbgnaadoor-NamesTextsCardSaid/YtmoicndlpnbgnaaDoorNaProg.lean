/-
  The program's own Read, by contract.
-/
import Derived.Test.YtmoicndlpnbgnaaDoorNaProg3
namespace Go.Proofs.YtmoicndlpnbgnaaDoor.Sh
open Go Go.RowKit

theorem results_cell1 {P : Program} {fn : Func} {p : Tmp} {ty : TypeId} (h : fn.results = #[.cell p ty]) (tmps : Array Value) (w : World) (b o : Nat) (cs : List Value) (d : TypeDesc)
    (hp : tmps.getD p undef = .pointer (some ⟨b, o, none⟩)) (hc : w.rangeAt b o cs) (hu : P.underlying ty = some d) (hd : d.isRow = true) (hi : (P.info? ty).map (·.size) = some cs.length) :
    (results fn tmps).run P w = .ok (.agg cs.toArray) w := by
  have hp' : tmps[p]?.getD undef = .pointer (some ⟨b, o, none⟩) := by simpa using hp
  simp [results, h, hp', asAddr, run_loadVar_mid w b o ty cs d hc hu hd hi]
/-- What parted answers: the role of a text, else the zero value. -/
theorem readB_no {s : ByteArray} (h : readL s.data.toList = none) : readB s = (⟨#[]⟩, ⟨#[]⟩, 10) := by unfold readB; rw [h]

set_option maxHeartbeats 4000000 in
theorem parted_any (s : ByteArray) (hs : s.size ≤ 9223372036854775807) (w : World) :
    Calls Tryd.prog 27 #[.string s] w fun e w' => e = .returned (.agg #[.string (readB s).1, .string (readB s).2.1]) ∧ Below w.heap.size w w' := by
  obtain ⟨l, hl⟩ : ∃ l, s.data.toList = l := ⟨_, rfl⟩
  have hsz := size_list s
  rw [hl] at hsz
  have HL := hid hl
  have HSZ := hid hsz
  clear hl hsz
  have hs' : (s.size : Int) ≤ 9223372036854775807 := by omega
  go_enter Tryd.func27, Tryd.ntmps27
  obtain ⟨w1, hw1⟩ : ∃ w1, w1 = w.alloc (.cells #[.string ⟨#[]⟩, .string ⟨#[]⟩] 23) := ⟨_, rfl⟩
  have HR0 : Hid (w1.heap[w.heap.size]? = some (.cells #[.string ⟨#[]⟩, .string ⟨#[]⟩] 23 (0, 0))) := hid (by rw [hw1]; exact heap_alloc_new w _)
  have HS1 : Hid (w1.heap.size = w.heap.size + 1) := hid (by rw [hw1, World.size_alloc])
  have HB1 : Hid (Below w.heap.size w w1) := hid (by rw [hw1]; exact (Below.refl _ _).alloc (Nat.le_refl _) _)
  go_wp2
  rw [← hw1]
  clear hw1
  go_loopw [] (fun wr => ∃ k : Nat, k ≤ s.size ∧ Hid (∀ x ∈ l.take k, x ≠ 46) ∧ wr = w1.iter s k) (fun wr => s.size - wr.iterPos w1.heap.size)
  case atStart => exact ⟨0, by omega, hid (by simp), rfl⟩
  case round =>
    obtain ⟨k, hk, HD, rfl⟩ := hrel
    by_cases hlt : k < s.size
    · obtain ⟨x, hx⟩ : ∃ x, l[k]? = some x := ⟨_, List.getElem?_eq_getElem (by rw [HSZ.out]; exact hlt)⟩
      obtain ⟨R, Z, hN, hkZ, hZ, hR, hlow, hhigh, hmid⟩ := next_at s (k := k) (x := x) (by rw [HL.out]; exact hx)
      have hnx := hN Tryd.prog w1
      rw [HS1.out] at hnx
      have HX := hid hx
      have hk00 : (0 : Int) ≤ (k : Int) := Int.natCast_nonneg _
      by_cases hdot : x.toNat = 46
      · have hRi : (R : Int) = 46 := by rw [(hlow (by omega)).1]; omega
        obtain rfl := (hlow (by omega)).2
        have hcut : readL l = if roleL (l.take k) (l.drop (k + 1)) = true then some (l.take k, l.drop (k + 1)) else none := by
          unfold readL
          rw [cutDot_at HD.out (by rw [HX.out]; congr 1; exact UInt8.toNat_inj.1 hdot)]
          simp only [Option.filter]
        have HR1 := hid (role_any (s.extract 0 k) (s.extract (k + 1) s.size))
        have hk1 : (k : Int) + 1 ≤ (s.size : Int) := by omega
        have hk2 : (k : Int) ≤ (s.size : Int) := by omega
        have HC := hid hcut
        clear hcut hlow hhigh hmid hN hx
        go_wp2_with fail
        go_region
        obtain ⟨o, ho⟩ : ∃ o, o = s.extract 0 k := ⟨_, rfl⟩
        obtain ⟨n, hn⟩ : ∃ n, n = s.extract (k + 1) s.size := ⟨_, rfl⟩
        rw [← ho, ← hn] at HR1
        rw [← ho, ← hn]
        obtain ⟨b, hb⟩ : ∃ b, roleL o.data.toList n.data.toList = b := ⟨_, rfl⟩
        rw [hb] at HR1
        have HO := hid ho
        have HN := hid hn
        have HB := hid hb
        clear ho hn hb hnx
        obtain ⟨wi, hwi⟩ : ∃ wi, wi = w1.iter s (k + 1) := ⟨_, rfl⟩
        have hi0 : wi.heap[w.heap.size]? = some (.cells #[.string ⟨#[]⟩, .string ⟨#[]⟩] 23 (0, 0)) := by
          rw [hwi]; exact ((iter_below w1 s (k + 1)).block w.heap.size (by rw [HS1.out]; exact Nat.lt_succ_self _)).trans HR0.out
        have bi : Below w.heap.size w wi := by rw [hwi]; exact HB1.out.trans ((iter_below w1 s (k + 1)).mono HB1.out.size)
        rw [← hwi]
        clear hwi
        have li : w.heap.size < wi.heap.size := (Array.getElem?_eq_some_iff.1 hi0).1
        obtain ⟨g, hg⟩ : ∃ g, g = wi.heap.size := ⟨_, rfl⟩
        obtain ⟨w3, hw3⟩ : ∃ w3, w3 = (wi.alloc (.cells #[.string o, .string n] 23)).drew := ⟨_, rfl⟩
        have hr0 : w3.heap[w.heap.size]? = some (.cells #[.string ⟨#[]⟩, .string ⟨#[]⟩] 23 (0, 0)) := by
          rw [hw3]
          show (wi.alloc _).heap[_]? = _
          rw [Below.heap_alloc _ _ _ li]
          exact hi0
        have hr1 : w3.heap[g]? = some (.cells #[.string o, .string n] 23 (0, 0)) := by
          rw [hw3, hg]
          exact heap_alloc_new wi _
        have hb3 : Below w.heap.size w w3 := by
          rw [hw3]
          exact (bi.alloc bi.size _).drew
        have hgl : w.heap.size ≤ g := by rw [hg]; omega
        rw [← hw3, ← hg]
        clear hw3 hg hi0 bi li
        have e0 : w3.cell? ⟨g, 0, none⟩ = some (.string o) := by rw [cell_of_row w3 _ 0 _ _ (0, 0) hr1]; rfl
        have e1 : w3.cell? ⟨g, 1, none⟩ = some (.string n) := by rw [cell_of_row w3 _ 1 _ _ (0, 0) hr1]; rfl
        go_wp2_with fail
        refine (HR1.out w3).mono ?_
        rintro er w2 ⟨rfl, b2⟩
        have l1 : g < w3.heap.size := (Array.getElem?_eq_some_iff.1 hr1).1
        have hs0 := (b2.block w.heap.size (by omega)).trans hr0
        have hs1 := (b2.block g l1).trans hr1
        have b02 := hb3.trans (b2.mono hb3.size)
        have f0 := frozen_of_row w2 _ 0 _ _ hs0
        have f1 := frozen_of_row w2 _ 1 _ _ hs0
        have c0 : w2.cell? ⟨w.heap.size, 0, none⟩ = some (.string ⟨#[]⟩) := by rw [cell_of_row w2 _ 0 _ _ (0, 0) hs0]; rfl
        have c1 : w2.cell? ⟨w.heap.size, 1, none⟩ = some (.string ⟨#[]⟩) := by rw [cell_of_row w2 _ 1 _ _ (0, 0) hs0]; rfl
        have d0 : w2.cell? ⟨g, 0, none⟩ = some (.string o) := by rw [cell_of_row w2 _ 0 _ _ (0, 0) hs1]; rfl
        have d1 : w2.cell? ⟨g, 1, none⟩ = some (.string n) := by rw [cell_of_row w2 _ 1 _ _ (0, 0) hs1]; rfl
        have HS0 := hid hs0
        clear hs0 hs1 hr0 hr1 hb3 b2 HR1 e0 e1
        cases b with
        | false =>
          have HE : Hid (readB s = (⟨#[]⟩, ⟨#[]⟩, 10)) := hid (by
            refine readB_no ?_
            have h := HB.out
            rw [HO.out, HN.out, Lib.extract_data, Lib.extract_data, HL.out] at h
            have e1 : ((l.drop 0).take (k - 0)) = l.take k := by simp
            have e2 : ((l.drop (k + 1)).take (s.size - (k + 1))) = l.drop (k + 1) := List.take_of_length_le (by rw [List.length_drop, HSZ.out]; omega)
            rw [e1, e2] at h
            rw [HL.out, HC.out, if_neg (by rw [h]; simp)])
          go_wp2
          refine bodyPost_ret (results_cell1 (h := Tryd.results27) _ _ w.heap.size 0 [.string ⟨#[]⟩, .string ⟨#[]⟩] _ rfl (range_row (pair_set HS0.out)) Tryd.underlying23 rfl info_role) rfl ⟨by rw [HE.out], (b02.setCell (Nat.le_refl _) _).setCell (Nat.le_refl _) _⟩
        | true =>
          have HE : Hid (readB s = (o, n, 0)) := hid (by
            unfold readB
            have h := HB.out
            have ho := HO.out
            have hn := HN.out
            rw [Lib.extract_eq, HL.out] at ho hn
            have e1 : ((l.drop 0).take (k - 0)) = l.take k := by simp
            have e2 : ((l.drop (k + 1)).take (s.size - (k + 1))) = l.drop (k + 1) := List.take_of_length_le (by rw [List.length_drop, HSZ.out]; omega)
            rw [e1] at ho
            rw [e2] at hn
            rw [ho, hn] at h
            rw [HL.out, HC.out, if_pos h, ho, hn])
          go_wp2
          refine bodyPost_ret (results_cell1 (h := Tryd.results27) _ _ w.heap.size 0 [.string o, .string n] _ rfl (range_row (pair_set HS0.out)) Tryd.underlying23 rfl info_role) rfl ⟨by rw [HE.out], (b02.setCell (Nat.le_refl _) _).setCell (Nat.le_refl _) _⟩
      · have hRi : ¬ (R : Int) = 46 := by
          rcases Nat.lt_or_ge x.toNat 128 with h | h
          · rw [(hlow h).1]; omega
          · have := hhigh h; omega
        have HO : Hid (∀ y ∈ l.take Z, y ≠ 46) := hid (by
          intro y hy e
          obtain ⟨j, hj⟩ := List.getElem?_of_mem hy
          rw [List.getElem?_take] at hj
          split at hj
          · rename_i hjZ
            rcases Nat.lt_trichotomy j k with h | h | h
            · exact HD.out y (List.mem_of_getElem? (by rw [List.getElem?_take, if_pos h]; exact hj)) e
            · subst h
              rw [HX.out] at hj
              injection hj with hj
              subst hj
              exact hdot (by rw [e]; rfl)
            · have := hmid j y h hjZ (by rw [HL.out]; exact hj)
              rw [e] at this
              exact absurd this (by decide)
          · cases hj)
        clear hlow hhigh hmid hN hx
        go_wp2
        go_roundw
        case rel => exact ⟨Z, by omega, HO, rfl⟩
        case measure => simp [World.iterPos_iter]; omega
    · obtain rfl : k = s.size := by omega
      have hnx := fun ty => run_next_end (P := Tryd.prog) w1 s s.size ty hlt
      rw [HS1.out] at hnx
      have HE : Hid (readB s = (⟨#[]⟩, ⟨#[]⟩, 10)) := hid (by
        refine readB_no ?_
        unfold readL
        have h := HD.out
        rw [List.take_of_length_le (by rw [HSZ.out]; exact Nat.le_refl _)] at h
        rw [HL.out, cutDot_none.2 h]
        rfl)
      have HS0 := hid (((iter_below w1 s s.size).block w.heap.size (by rw [HS1.out]; exact Nat.lt_succ_self _)).trans HR0.out)
      have b2 := HB1.out.trans ((iter_below w1 s s.size).mono HB1.out.size)
      have f0 := frozen_of_row _ _ 0 _ _ HS0.out
      have f1 := frozen_of_row _ _ 1 _ _ HS0.out
      have c0 : (w1.iter s s.size).cell? ⟨w.heap.size, 0, none⟩ = some (.string ⟨#[]⟩) := by rw [cell_of_row _ _ 0 _ _ (0, 0) HS0.out]; rfl
      have c1 : (w1.iter s s.size).cell? ⟨w.heap.size, 1, none⟩ = some (.string ⟨#[]⟩) := by rw [cell_of_row _ _ 1 _ _ (0, 0) HS0.out]; rfl
      go_wp2
      refine bodyPost_ret (results_cell1 (h := Tryd.results27) _ _ w.heap.size 0 [.string ⟨#[]⟩, .string ⟨#[]⟩] _ rfl (range_row (pair_set HS0.out)) Tryd.underlying23 rfl info_role) rfl ⟨by rw [HE.out], (b2.setCell (Nat.le_refl _) _).setCell (Nat.le_refl _) _⟩

theorem readB_role (s : ByteArray) : readB s = (⟨#[]⟩, ⟨#[]⟩, 10) ∨ ∃ o n, readB s = (o, n, 0) ∧ o.data.toList ≠ [] := by
  unfold readB
  cases h : readL s.data.toList with
  | none => exact .inl rfl
  | some p =>
    obtain ⟨o, n⟩ := p
    have h2 := (readL_some h).2
    refine .inr ⟨_, _, rfl, fun e => ?_⟩
    have e' : o = [] := by simpa using e
    subst e'
    unfold roleL at h2
    simp [numL] at h2
set_option maxHeartbeats 4000000 in
theorem read_any (s : ByteArray) (hs : s.size ≤ 9223372036854775807) (w : World) : Calls Tryd.prog 18 #[.string s] w fun e w' => e = roleEnd (readB s) ∧ Below w.heap.size w w' := by
  have HP := hid (fun w => parted_any s hs w)
  have HC := hid (readB_role s)
  obtain ⟨o, n, e, hr⟩ : ∃ o n e, readB s = (o, n, e) := ⟨_, _, _, rfl⟩
  rw [hr] at HP HC ⊢
  clear hr
  go_enter Tryd.func18, Tryd.ntmps18
  obtain ⟨w0, hw0⟩ : ∃ w0, w0 = w.alloc (.cells #[.string ⟨#[]⟩, .string ⟨#[]⟩] 23) := ⟨_, rfl⟩
  have hr0 : w0.heap[w.heap.size]? = some (.cells #[.string ⟨#[]⟩, .string ⟨#[]⟩] 23 (0, 0)) := by rw [hw0]; exact heap_alloc_new w _
  have b0 : Below w.heap.size w w0 := by rw [hw0]; exact (Below.refl _ _).alloc (Nat.le_refl _) _
  go_wp2_with fail
  rw [← hw0]
  clear hw0
  refine (HP.out w0).mono ?_
  rintro er w1 ⟨rfl, bb⟩
  have hr1 := (bb.block w.heap.size (Array.getElem?_eq_some_iff.1 hr0).1).trans hr0
  have b1 := b0.trans (bb.mono b0.size)
  clear bb b0 hr0
  have l0 : w.heap.size < w1.heap.size := (Array.getElem?_eq_some_iff.1 hr1).1
  have HS0 : Hid ((w1.alloc (.cells #[.string o, .string n] 23)).heap[w.heap.size]? = some (.cells #[.string ⟨#[]⟩, .string ⟨#[]⟩] 23 (0, 0))) := hid (by rw [Below.heap_alloc _ _ _ l0]; exact hr1)
  have b2 := b1.alloc b1.size (.cells #[.string o, .string n] 23)
  have f0 := frozen_of_row _ _ 0 _ _ HS0.out
  have f1 := frozen_of_row _ _ 1 _ _ HS0.out
  have c0 : (w1.alloc (.cells #[.string o, .string n] 23)).cell? ⟨w.heap.size, 0, none⟩ = some (.string ⟨#[]⟩) := by rw [cell_of_row _ _ 0 _ _ (0, 0) HS0.out]; rfl
  have c1 : (w1.alloc (.cells #[.string o, .string n] 23)).cell? ⟨w.heap.size, 1, none⟩ = some (.string ⟨#[]⟩) := by rw [cell_of_row _ _ 1 _ _ (0, 0) HS0.out]; rfl
  clear hr1 l0 b1
  rcases HC.out with h | ⟨o', n', h, hne⟩
  · simp only [Prod.mk.injEq] at h
    obtain ⟨rfl, rfl, rfl⟩ := h
    go_wp2
    refine bodyPost_ret (results_cell_tmp (h := Tryd.results18) _ _ w.heap.size 0 [.string ⟨#[]⟩, .string ⟨#[]⟩] _ rfl (range_row (pair_set HS0.out)) Tryd.underlying23 rfl info_role) rfl ⟨rfl, (b2.setCell (Nat.le_refl _) _).setCell (Nat.le_refl _) _⟩
  · simp only [Prod.mk.injEq] at h
    obtain ⟨rfl, rfl, rfl⟩ := h
    have hb5 : ¬ o.toList = [] := by rw [Lib.toList_data]; exact hne
    have hb1 : (o.toList == []) = false := beq_eq_false_iff_ne.2 hb5
    have hb3 : o.toList.isEmpty = false := by cases h : o.toList with | nil => exact absurd h hb5 | cons _ _ => rfl
    have hb4 : ¬ o = ⟨#[]⟩ := fun e => hne (by rw [e])
    clear hne
    go_wp2
    refine bodyPost_ret (results_cell_tmp (h := Tryd.results18) _ _ w.heap.size 0 [.string o, .string n] _ rfl (range_row (pair_set HS0.out)) Tryd.underlying23 rfl info_role) rfl ⟨rfl, (b2.setCell (Nat.le_refl _) _).setCell (Nat.le_refl _) _⟩
end Go.Proofs.YtmoicndlpnbgnaaDoor.Sh
