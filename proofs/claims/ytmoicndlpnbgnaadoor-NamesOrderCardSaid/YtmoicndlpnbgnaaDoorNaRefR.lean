/-
  The document's own Read.
-/
import Derived.Test.YtmoicndlpnbgnaaDoorNaRefD
namespace Go.Proofs.YtmoicndlpnbgnaaDoor.Sh
open Go Go.RowKit

/-- The role of a text, and the error. -/
def readB (s : ByteArray) : ByteArray × ByteArray × Int :=
  match readL s.data.toList with
  | some (o, n) => (⟨o.toArray⟩, ⟨n.toArray⟩, 0)
  | none => (⟨#[]⟩, ⟨#[]⟩, 10)
def roleEnd (x : ByteArray × ByteArray × Int) : Ending := .returned (.tuple #[.agg #[.string x.1, .string x.2.1], .int .i64 x.2.2])

theorem results_cell_tmp {P : Program} {fn : Func} {p q : Tmp} {ty : TypeId} (h : fn.results = #[.cell p ty, .tmp q]) (tmps : Array Value) (w : World) (b o : Nat) (cs : List Value) (d : TypeDesc)
    (hp : tmps.getD p undef = .pointer (some ⟨b, o, none⟩)) (hc : w.rangeAt b o cs) (hu : P.underlying ty = some d) (hd : d.isRow = true) (hi : (P.info? ty).map (·.size) = some cs.length) :
    (results fn tmps).run P w = .ok (.tuple #[.agg cs.toArray, tmps.getD q undef]) w := by
  have hp' : tmps[p]?.getD undef = .pointer (some ⟨b, o, none⟩) := by simpa using hp
  simp [results, h, hp', asAddr, run_loadVar_mid w b o ty cs d hc hu hd hi]
/-- Two texts in a block of two cells, behind a store of both. -/
theorem pair_set {w : World} {g : Nat} {u v x y : Value} {t : TypeId} (h : w.heap[g]? = some (.cells #[u, v] t (0, 0))) : ((w.setCell ⟨g, 0, none⟩ x).setCell ⟨g, 1, none⟩ y).heap[g]? = some (.cells #[x, y] t (0, 0)) :=
  heap_setCell_same _ g 1 _ _ y (heap_setCell_same w g 0 _ _ x h)
theorem info_role : (Tryd.prog.info? 23).map (·.size) = some 2 := by kernel_rfl

set_option maxHeartbeats 2000000 in
theorem refRead_any (s : ByteArray) (hs : s.size ≤ 9223372036854775807) (w : World) :
    Calls Tryd.prog 19 #[.string s] w fun e w' => e = roleEnd (readB s) ∧ Below w.heap.size w w' := by
  obtain ⟨l, hl⟩ : ∃ l, s.data.toList = l := ⟨_, rfl⟩
  have hsz := size_list s
  rw [hl] at hsz
  have HL := hid hl
  have HSZ := hid hsz
  clear hl hsz
  have hs' : (s.size : Int) ≤ 9223372036854775807 := by omega
  go_enter Tryd.func19, Tryd.ntmps19
  go_wp2
  go_loopw [4] (fun i wr => ∃ k : Nat, i = .int .i64 (k : Int) ∧ k ≤ s.size ∧ Hid (∀ x ∈ l.take k, x ≠ 46) ∧ w.alloc (.cells #[.string ⟨#[]⟩, .string ⟨#[]⟩] 23) = wr) (fun i _ => s.size - (intOf i).toNat)
  case atStart => exact ⟨0, rfl, by omega, hid (by simp), rfl⟩
  case round =>
    obtain ⟨k, rfl, hk, HD, rfl⟩ := hrel
    by_cases hlt : k < s.size
    · obtain ⟨y, hy⟩ : ∃ y, l[k]? = some y := ⟨_, List.getElem?_eq_getElem (by have := HSZ.out; omega)⟩
      obtain ⟨hk2, hsy⟩ := sget s (j := k) (x := y) (by rw [HL.out]; exact hy)
      have hy8 := lt8 y
      have HY := hid hy
      have hlt' : (k : Int) < (s.size : Int) := by omega
      have hk0 : (0 : Int) ≤ (k : Int) := Int.natCast_nonneg _
      clear hy
      by_cases hdot : y.toNat = 46
      · have hd' : (y.toNat : Int) = 46 := by omega
        have hcut : readL l = if roleL (l.take k) (l.drop (k + 1)) = true then some (l.take k, l.drop (k + 1)) else none := by
          unfold readL
          rw [cutDot_at HD.out (by rw [HY.out]; congr 1; exact UInt8.toNat_inj.1 hdot)]
          simp only [Option.filter]
        have HR1 := hid (refRole_any (s.extract 0 k) (s.extract (k + 1) s.size))
        have hk1 : (k : Int) + 1 ≤ (s.size : Int) := by omega
        have HC := hid hcut
        clear hcut
        go_wp2_with fail
        go_region
        obtain ⟨o, ho⟩ : ∃ o, o = s.extract 0 k := ⟨_, rfl⟩
        obtain ⟨n, hn⟩ : ∃ n, n = s.extract (k + 1) s.size := ⟨_, rfl⟩
        rw [← ho, ← hn] at HR1
        rw [← ho, ← hn]
        obtain ⟨b, hb⟩ : ∃ b, roleL o.data.toList n.data.toList = b := ⟨_, rfl⟩
        rw [hb] at HR1
        have HO := hid ho
        have HN := hid hn
        have HB := hid hb
        clear ho hn hb
        obtain ⟨w1, hw1⟩ : ∃ w1, w1 = ((w.alloc (.cells #[.string ⟨#[]⟩, .string ⟨#[]⟩] 23)).alloc (.cells #[.string o, .string n] 23)).drew := ⟨_, rfl⟩
        have hr0 : w1.heap[w.heap.size]? = some (.cells #[.string ⟨#[]⟩, .string ⟨#[]⟩] 23 (0, 0)) := by
          rw [hw1]
          show ((w.alloc _).alloc _).heap[_]? = _
          rw [Below.heap_alloc _ _ _ (by rw [World.size_alloc]; exact Nat.lt_succ_self _)]
          exact heap_alloc_new w _
        have hr1 : w1.heap[w.heap.size + 1]? = some (.cells #[.string o, .string n] 23 (0, 0)) := by
          rw [hw1]
          have := heap_alloc_new (w.alloc (.cells #[.string ⟨#[]⟩, .string ⟨#[]⟩] 23)) (.cells #[.string o, .string n] 23)
          rw [World.size_alloc] at this
          exact this
        have hb1 : Below w.heap.size w w1 := by
          rw [hw1]
          exact (((Below.refl _ _).alloc (Nat.le_refl _) _).alloc (by rw [World.size_alloc]; exact Nat.le_succ _) _).drew
        rw [← hw1]
        clear hw1
        have e0 : w1.cell? ⟨w.heap.size + 1, 0, none⟩ = some (.string o) := by rw [cell_of_row w1 _ 0 _ _ (0, 0) hr1]; rfl
        have e1 : w1.cell? ⟨w.heap.size + 1, 1, none⟩ = some (.string n) := by rw [cell_of_row w1 _ 1 _ _ (0, 0) hr1]; rfl
        go_wp2_with fail
        refine (HR1.out w1).mono ?_
        rintro er w2 ⟨rfl, b2⟩
        have l1 : w.heap.size + 1 < w1.heap.size := (Array.getElem?_eq_some_iff.1 hr1).1
        have hs0 := (b2.block w.heap.size (by omega)).trans hr0
        have hs1 := (b2.block (w.heap.size + 1) l1).trans hr1
        have b02 := hb1.trans (b2.mono hb1.size)
        have c0 : w2.cell? ⟨w.heap.size, 0, none⟩ = some (.string ⟨#[]⟩) := by rw [cell_of_row w2 _ 0 _ _ (0, 0) hs0]; rfl
        have c1 : w2.cell? ⟨w.heap.size, 1, none⟩ = some (.string ⟨#[]⟩) := by rw [cell_of_row w2 _ 1 _ _ (0, 0) hs0]; rfl
        have f0 := frozen_of_row w2 _ 0 _ _ hs0
        have f1 := frozen_of_row w2 _ 1 _ _ hs0
        have d0 : w2.cell? ⟨w.heap.size + 1, 0, none⟩ = some (.string o) := by rw [cell_of_row w2 _ 0 _ _ (0, 0) hs1]; rfl
        have d1 : w2.cell? ⟨w.heap.size + 1, 1, none⟩ = some (.string n) := by rw [cell_of_row w2 _ 1 _ _ (0, 0) hs1]; rfl
        have HS0 := hid hs0
        clear hs0 hs1 hr0 hr1 hb1 b2 HR1 e0 e1
        cases b with
        | false =>
          have HE : Hid (readB s = (⟨#[]⟩, ⟨#[]⟩, 10)) := hid (by
            unfold readB
            have h := HB.out
            rw [HO.out, HN.out, Lib.extract_data, Lib.extract_data, HL.out] at h
            have e1 : ((l.drop 0).take (k - 0)) = l.take k := by simp
            have e2 : ((l.drop (k + 1)).take (s.size - (k + 1))) = l.drop (k + 1) := List.take_of_length_le (by rw [List.length_drop, HSZ.out]; omega)
            rw [e1, e2] at h
            rw [HL.out, HC.out, if_neg (by rw [h]; simp)])
          go_wp2
          refine bodyPost_ret (results_cell_tmp (h := Tryd.results19) _ _ w.heap.size 0 [.string ⟨#[]⟩, .string ⟨#[]⟩] _ rfl (range_row (pair_set HS0.out)) Tryd.underlying23 rfl info_role) rfl ⟨by rw [HE.out]; rfl, (b02.setCell (Nat.le_refl _) _).setCell (Nat.le_refl _) _⟩
        | true =>
          have HE : Hid (readB s = (o, n, 0)) := hid (by
            unfold readB
            have h := HB.out
            have ho := HO.out
            have hn := HN.out
            rw [Lib.extract_eq, HL.out] at ho hn
            have e1 : ((l.drop 0).take (k - 0)) = l.take k := by simp
            have e2 : ((l.drop (k + 1)).take (s.size - (k + 1))) = l.drop (k + 1) := List.take_of_length_le (by rw [List.length_drop, HSZ.out]; omega)
            rw [e1] at ho
            rw [e2] at hn
            rw [ho, hn] at h
            rw [HL.out, HC.out, if_pos h, ho, hn])
          go_wp2
          refine bodyPost_ret (results_cell_tmp (h := Tryd.results19) _ _ w.heap.size 0 [.string o, .string n] _ rfl (range_row (pair_set HS0.out)) Tryd.underlying23 rfl info_role) rfl ⟨by rw [HE.out]; rfl, (b02.setCell (Nat.le_refl _) _).setCell (Nat.le_refl _) _⟩
      · have hd' : ¬ (y.toNat : Int) = 46 := by omega
        have HO : Hid (∀ x ∈ l.take (k + 1), x ≠ 46) := hid (by
          rw [take_snoc_of HY.out]
          intro x hx
          rcases List.mem_append.1 hx with h | h
          · exact HD.out x h
          · rw [List.mem_singleton.1 h]
            intro e
            exact hdot (by rw [e]; rfl))
        go_wp2
        go_roundw
        case rel => exact ⟨k + 1, by go_num, by omega, HO, trivial⟩
        case measure => simp [intOf]; omega
    · obtain rfl : k = s.size := by omega
      have HE : Hid (readB s = (⟨#[]⟩, ⟨#[]⟩, 10)) := hid (by
        unfold readB readL
        have h := HD.out
        rw [List.take_of_length_le (by rw [HSZ.out]; exact Nat.le_refl _)] at h
        rw [HL.out, cutDot_none.2 h]
        rfl)
      have hlt' : ¬ (s.size : Int) < (s.size : Int) := by omega
      have HS0 := hid (heap_alloc_new w (.cells #[.string ⟨#[]⟩, .string ⟨#[]⟩] 23))
      have b1 : Below w.heap.size w (w.alloc (.cells #[.string ⟨#[]⟩, .string ⟨#[]⟩] 23)) := (Below.refl _ _).alloc (Nat.le_refl _) _
      have f0 := frozen_of_row _ _ 0 _ _ HS0.out
      have f1 := frozen_of_row _ _ 1 _ _ HS0.out
      go_wp2
      refine bodyPost_ret (results_cell_tmp (h := Tryd.results19) _ _ w.heap.size 0 [.string ⟨#[]⟩, .string ⟨#[]⟩] _ rfl (range_row HS0.out) Tryd.underlying23 rfl info_role) rfl ⟨by rw [HE.out]; rfl, b1⟩
end Go.Proofs.YtmoicndlpnbgnaaDoor.Sh
