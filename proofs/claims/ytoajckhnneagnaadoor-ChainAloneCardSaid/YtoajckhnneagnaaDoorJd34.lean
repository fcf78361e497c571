/-
  The program's ranked, by contract.
-/
import Derived.Test.YtoajckhnneagnaaDoorJd31
import Derived.Test.YtoajckhnneagnaaDoorJd33
import Derived.Test.YtoajckhnneagnaaDoorJd14
set_option linter.unusedVariables false
set_option linter.unusedSimpArgs false
namespace Go.Proofs.YtoajckhnneagnaaDoor.Sh
open Go Go.RowKit
open Go.Maps (Keyed)

set_option linter.unusedVariables false
set_option linter.unusedSimpArgs false
structure Rkd (L : Ly) (who : ByteArray) (x : Sx) : Prop where
  P : ∀ i, i < 16 → L.P (i + 1) = domN i
  who : L.P 0 = who
  re : x.re = fun _ => none
  nr : x.nr = 0
  la : x.la = []
  rn : ∀ q, q.2 ∈ L.pe → x.s.rn q = rd L.cs q
  giv : ∀ r, x.s.giv r = L.cs.filter fun c => mat L.pe c && decide (roleOf c = r)
  may : ∀ c ∈ L.cs, mayC c = true
  few : L.cs.length ≤ 50
theorem Rkd.me {L : Ly} {who : ByteArray} {x : Sx} (h : Rkd L who x) : who ∈ L.pe := by
  rw [← h.who]; exact List.mem_map.2 ⟨0, List.mem_range.2 (by omega), rfl⟩
set_option maxHeartbeats 32000000 in
set_option maxRecDepth 100000 in
theorem ranked_any (A : Option Addr) (all : List Crd) (n c : Nat) (hn : all.length = n) (hc : n ≤ c) (hc2 : c ≤ 9223372036854775807) (hm : n ≤ 50) (who : ByteArray) (hwho : okB who) (w : World) (h : Crs w w.heap.size A all) :
    Calls Tryd.prog 27 #[.slice A n c, .string who] w fun e w' => ∃ L vF col x, e = .returned (.pointer (some ⟨L.sb, 0, none⟩)) ∧ CountsOf L.cs all ∧ L.B = w.heap.size ∧ Sea L w' vF (.slice none 0 0) col x ∧ Rkd L who x ∧ Below w.heap.size w w' := by
  have hmm := @run_makeMap Tryd.prog
  have HCN := hid (counts_any A all n c hn hc hc2 (by omega) w h)
  have HOW := hid hwho
  have HM : Hid (n ≤ 50) := hid hm
  clear h hn hc hc2 hwho
  go_enter Tryd.func27, Tryd.ntmps27
  go_upto_region 2 with (go_at_call 37; (refine HCN.out.mono ?_); rintro er w2 ⟨A', n', c', out, rfl, hn', how, hcnt, b2⟩; have HN' := hid hn'; have HOW2 := hid how; have HCT := hid hcnt; have HB2 := hid b2; clear how hcnt b2 hn')
  go_upto_region 3 with fail
  obtain ⟨w3, hw3⟩ : ∃ w3, w3 = ((((((w2.alloc (.map #[] 0)).alloc (.map #[] 0)).alloc (.map #[] 0)).alloc (.map #[] 0)).alloc (.map #[] 0)).alloc (.cells #[.string who, .string ⟨#[]⟩, .string ⟨#[]⟩, .string ⟨#[]⟩, .string ⟨#[]⟩, .string ⟨#[]⟩, .string ⟨#[]⟩, .string ⟨#[]⟩, .string ⟨#[]⟩, .string ⟨#[]⟩, .string ⟨#[]⟩, .string ⟨#[]⟩, .string ⟨#[]⟩, .string ⟨#[]⟩, .string ⟨#[]⟩, .string ⟨#[]⟩, .string ⟨#[]⟩, .slice A' n' c', .map (some w2.heap.size), .map (some (w2.heap.size + 1)), .map (some (w2.heap.size + 1 + 1)), .map (some (w2.heap.size + 1 + 1 + 1)), .slice none 0 0, .map (some (w2.heap.size + 1 + 1 + 1 + 1)), .slice none 0 0] 69)) := ⟨_, rfl⟩
  obtain ⟨n0, hn0⟩ : ∃ k, w2.heap.size = k := ⟨_, rfl⟩
  have HN0 := hid hn0
  have HW3 : Hid (Below w2.heap.size w2 w3 ∧ w3.heap.size = n0 + 6 ∧ w3.heap[n0]? = some (.map #[] 0) ∧ w3.heap[n0 + 1]? = some (.map #[] 0) ∧ w3.heap[n0 + 2]? = some (.map #[] 0) ∧ w3.heap[n0 + 3]? = some (.map #[] 0) ∧ w3.heap[n0 + 4]? = some (.map #[] 0) ∧ w3.heap[n0 + 5]? = some (.cells (rowS (peK who 0) (.slice A' n' c') n0 (n0 + 1) (n0 + 2) (n0 + 3) (.slice none 0 0) (n0 + 4) (.slice none 0 0)) 69 (0, 0))) := hid (by
    refine ⟨?_, ?_, ?_, ?_, ?_, ?_, ?_, ?_⟩
    · rw [hw3]
      exact ((((((Below.refl _ _).alloc (by simp) _).alloc (by simp) _).alloc (by simp; omega) _).alloc (by simp; omega) _).alloc (by simp; omega) _).alloc (by simp; omega) _
    · rw [hw3]; simp [hn0]
    · rw [hw3, hn0]; exact keep_alloc (keep_alloc (keep_alloc (keep_alloc (keep_alloc (by rw [← hn0]; exact (MapKept.heap_alloc w2 _).1)))))
    · rw [hw3, hn0]; exact keep_alloc (keep_alloc (keep_alloc (keep_alloc (by have := (MapKept.heap_alloc (w2.alloc (.map #[] 0)) (.map #[] 0)).1; rwa [World.size_alloc, hn0] at this))))
    · rw [hw3, hn0]; exact keep_alloc (keep_alloc (keep_alloc (by have := (MapKept.heap_alloc ((w2.alloc (.map #[] 0)).alloc (.map #[] 0)) (.map #[] 0)).1; rwa [World.size_alloc, World.size_alloc, hn0] at this)))
    · rw [hw3, hn0]; exact keep_alloc (keep_alloc (by have := (MapKept.heap_alloc (((w2.alloc (.map #[] 0)).alloc (.map #[] 0)).alloc (.map #[] 0)) (.map #[] 0)).1; rwa [World.size_alloc, World.size_alloc, World.size_alloc, hn0] at this))
    · rw [hw3, hn0]; exact keep_alloc (by have := (MapKept.heap_alloc ((((w2.alloc (.map #[] 0)).alloc (.map #[] 0)).alloc (.map #[] 0)).alloc (.map #[] 0)) (.map #[] 0)).1; rwa [World.size_alloc, World.size_alloc, World.size_alloc, World.size_alloc, hn0] at this)
    · rw [hw3, hn0]; exact new_at (by simp [hn0]))
  rw [← hw3]
  clear hw3 hmm
  rw [hn0]
  rw [show n0 + 1 + 1 + 1 + 1 + 1 = n0 + 5 from rfl]
  clear hn0
  go_wp2_with fail
  go_loopw [6] (fun i wr => ∃ j : Nat, i = .int .i64 (j : Int) ∧ 1 ≤ j ∧ j ≤ 17 ∧ Hid (But (fun g => g = n0 + 5) w3 wr) ∧ Hid (wr.heap[n0 + 5]? = some (.cells (rowS (peK who (j - 1)) (.slice A' n' c') n0 (n0 + 1) (n0 + 2) (n0 + 3) (.slice none 0 0) (n0 + 4) (.slice none 0 0)) 69 (0, 0)))) (fun i _ => 17 - (intOf i).toNat)
  case atStart => exact ⟨1, rfl, by omega, by omega, hid (But.refl _ _), hid HW3.out.2.2.2.2.2.2.2⟩
  case round =>
    obtain ⟨j, rfl, hj1, hj2, HBU, HRW⟩ := hrel
    by_cases hlt : j < 17
    · have hj0 : (0 : Int) ≤ (j : Int) := Int.natCast_nonneg _
      have hj3 : (j : Int) ≤ 16 := by omega
      have hj4 : (j : Int) < 17 := by omega
      have HDOM := hid (fun W => by have := domain_any (j : Int) (by omega) (by omega) W; rw [show (⟨(domL (j : Int)).toArray⟩ : ByteArray) = domN (j - 1) from by unfold domN domB; rw [show (((j - 1 : Nat) : Int) + 1) = (j : Int) by omega]] at this; exact this)
      go_wp2_with fail
      go_region_held3 (fun _ => True) (trivial) ((first | (go_at_call 43; (refine (HDOM.out _).mono ?_); rintro er w8 ⟨rfl, b8⟩; have B8 := hid b8; have r8 : Hid (w8.heap[n0 + 5]? = _) := hid ((b8.block _ (Array.getElem?_eq_some_iff.1 HRW.out).1).trans HRW.out); have c8 : w8.cell? ⟨n0 + 5, j, none⟩ = some (.string (peK who (j - 1) j)) := (by rw [cell_of_row w8 _ j _ _ (0, 0) r8.out]; exact rowS_pe hlt); have f8 : w8.frozen? ⟨n0 + 5, j, none⟩ = false := frozen_of_row w8 _ j _ _ r8.out; clear b8)))
      all_goals
        go_wp2_with fail
        go_roundw
        case rel => exact ⟨j + 1, by go_num, by omega, by omega, hid ((HBU.out.drew.trans (But.below B8.out) fun g _ h => h.elim).set _ (.inr rfl)), hid (by rw [heap_setCell_same w8 (n0 + 5) j _ _ _ r8.out, rowS_set who _ _ _ _ _ _ _ _ j hj1 (by omega)]; rfl)⟩
        case measure => simp [intOf]; omega
    · obtain rfl : j = 17 := by omega
      obtain ⟨sb, hsb⟩ : ∃ k, n0 + 5 = k := ⟨_, rfl⟩
      have hlen := HOW2.out.len
      have hn2 : n' ≤ c' ∧ c' ≤ 9223372036854775807 := by
        obtain ⟨A2, c2, e, h1, h2⟩ := HOW2.out.slice
        simp only [Value.slice.injEq] at e
        obtain ⟨_, _, rfl⟩ := e
        exact ⟨h1, h2⟩
      have HMAY : Hid (∀ c ∈ out, mayC c = true) := hid (fun c hc => (counts_mem HCT.out hc).1)
      have hbel : Below w2.heap.size w2 wr := by
        obtain ⟨x1, x2, -⟩ := HW3.out
        exact ⟨HBU.out.os.trans x1.os, HBU.out.tape.trans x1.tape, HBU.out.output.trans x1.output, Nat.le_trans x1.size HBU.out.size, fun g hg => (HBU.out.block g (Nat.lt_of_lt_of_le hg x1.size) (by rw [HN0.out] at hg; omega)).trans (x1.block g hg)⟩
      have hkeep : ∀ g X, g < n0 + 5 → w3.heap[g]? = some X → wr.heap[g]? = some X := fun g X hg e => (HBU.out.block g (Array.getElem?_eq_some_iff.1 e).1 (by omega)).trans e
      have hS0 := Sea.new w2 w.heap.size HB2.out.size A' out n' c' hlen hn2.1 hn2.2 HOW2.out.crs HMAY.out (peK who 16) (fun i hi => by
        unfold peK
        split
        · exact HOW.out
        · rw [if_pos (by omega)]; exact ok_dom _) wr hbel (by rw [HN0.out, ← HW3.out.2.1]; exact HBU.out.size) (by rw [HN0.out]; exact hkeep _ _ (by omega) HW3.out.2.2.1) (by rw [HN0.out]; exact hkeep _ _ (by omega) HW3.out.2.2.2.1) (by rw [HN0.out]; exact hkeep _ _ (by omega) HW3.out.2.2.2.2.1) (by rw [HN0.out]; exact hkeep _ _ (by omega) HW3.out.2.2.2.2.2.1) (by rw [HN0.out]; exact hkeep _ _ (by omega) HW3.out.2.2.2.2.2.2.1) (by rw [HN0.out]; exact HRW.out)
      rw [HN0.out] at hS0
      rw [hsb] at hS0
      have HBW0 := hid (HB2.out.trans (hbel.mono HB2.out.size))
      obtain ⟨L, hL⟩ : ∃ L : Ly, L = ⟨w.heap.size, sb, peK who 16, A', n', c', out, n0, n0 + 1, n0 + 2, n0 + 3, n0 + 4⟩ := ⟨_, rfl⟩
      rw [← hL] at hS0
      have HSB : Hid (L.sb = sb) := hid (by rw [hL])
      have HLB : Hid (L.B = w.heap.size) := hid (by rw [hL])
      have HLP : Hid (L.P = peK who 16) := hid (by rw [hL])
      have HLA : Hid (L.A = A' ∧ L.nc = n' ∧ L.cc = c') := hid (by rw [hL]; exact ⟨rfl, rfl, rfl⟩)
      have HLC : Hid (L.cs = out) := hid (by rw [hL])
      have HPD : Hid (∀ i, i < 16 → L.P (i + 1) = domN i) := hid (fun i hi => by rw [HLP.out]; unfold peK; rw [if_neg (by omega), if_pos (by omega)]; rfl)
      have HPE : Hid (∀ i, i < 16 → domN i ∈ L.pe) := hid (fun i hi => by rw [← HPD.out i hi]; exact List.mem_map.2 ⟨i + 1, List.mem_range.2 (by omega), rfl⟩)
      have HFEW : Hid (out.length ≤ 50) := hid (by rw [hlen]; have := HN'.out; have := HM.out; omega)
      have HHH : Hid (out.length * L.pe.length ≤ 850) := hid (by rw [pe_len]; have := HFEW.out; omega)
      have HAA : Hid (out.length * L.pe.length * (3 * out.length) ≤ 127500) := hid (by
        have h1 : 3 * out.length ≤ 150 := by have := HFEW.out; omega
        exact Nat.le_trans (Nat.mul_le_mul HHH.out h1) (by decide))
      have HLN := hid hlen
      have n63 : n' ≤ 50 := by have := HFEW.out; omega
      have HS0 := hid hS0
      have c17 : wr.cell? ⟨sb, 17, none⟩ = some (.slice A' n' c') := by have := HS0.out.cell.1; rw [HSB.out, HLA.out.1, HLA.out.2.1, HLA.out.2.2] at this; exact this
      clear hS0 hL hbel hkeep hlen hn2 HW3 HBU HRW HOW2 HN0 HB2
      rw [hsb]
      clear hsb
      obtain ⟨wz, hwz⟩ : ∃ x, x = wr := ⟨_, rfl⟩
      subst hwz
      go_wp2_with fail
      clear c17
      go_loopw [43] (fun i wr => ∃ (k : Nat) (vFk : Value) (ck : Col), i = .int .i64 (k : Int) ∧ k ≤ n' ∧ Hid (Sea L wr vFk (.slice none 0 0) ck ⟨tookC L.pe (out.take k), fun _ => none, 0, []⟩) ∧ Hid (Below w.heap.size w wr)) (fun i _ => n' - (intOf i).toNat)
      case atStart => exact ⟨0, .slice none 0 0, _, rfl, Nat.zero_le _, HS0, HBW0⟩
      case round =>
        obtain ⟨k, vFk, ck, rfl, hk, HSK, HBK⟩ := hrel
        by_cases hlt2 : k < n'
        · obtain ⟨⟨d, q, nm, kd, wh, ao, an, bo, bn⟩, hx⟩ : ∃ x, out[k]? = some x := ⟨_, List.getElem?_eq_getElem (by rw [HLN.out]; exact hlt2)⟩
          have hel := HSK.out.cr.2.2.2.1
          rw [HLA.out.1, HLC.out] at hel
          obtain ⟨ad, aj, rfl, hab, ea, hbj, a0, a1, a2, a3, a4, a5, a6, a7, a8⟩ := hel.get hx
          simp only at a0 a1 a2 a3 a4 a5 a6 a7 a8
          have hk0 : (0 : Int) ≤ (k : Int) := Int.natCast_nonneg _
          have hk1 : (k : Int) < (n' : Int) := by omega
          obtain ⟨hT, -⟩ := tookC_ok (pe := L.pe) (out.take k) (fun c hc => by have := (may_kd (HMAY.out c (List.mem_of_mem_take hc))).1; omega)
          have htl : (out.take k).length = k := by rw [List.length_take, HLN.out]; omega
          have b1 := hT.ic
          have b2 := hT.len
          have b3 : (tookC L.pe (out.take k)).fr.length = (tookC L.pe (out.take k)).kn.length := by rw [hT.fr]
          have HNX : Hid (tookC L.pe (out.take (k + 1)) = (tookC L.pe (out.take k)).take L.pe ⟨d, q, nm, kd, wh, ao, an, bo, bn⟩) := hid (by rw [take_snoc_of hx, tookC_snoc])
          have HA := hid (fun W (hW : Below wr.heap.size wr W) => ctake_any (HSK.out.below hW) ⟨d, q, nm, kd, wh, ao, an, bo, bn⟩ (HMAY.out _ (List.mem_of_getElem? hx)) (by show (tookC L.pe (out.take k)).ic ≤ _; omega) (by show (tookC L.pe (out.take k)).kn.length ≤ _; omega) (by show (tookC L.pe (out.take k)).fr.length ≤ _; omega))
          rw [HSB.out] at HA
          unfold Crd.cells at HA
          simp only at HA
          have HBA := hid (fun o => HBK.out.trans (((Below.refl wr.heap.size wr).alloc (Nat.le_refl _) o).mono HBK.out.size))
          have HLW := hid HSK.out.low
          clear hx hel hab hbj b1 b2 b3 hT htl
          go_wp2_with (go_at_call 44; (refine (HA.out _ ((Below.refl _ _).alloc (Nat.le_refl _) _)).mono ?_); rintro er w5 ⟨rfl, v5, c5, h5, x5⟩; have HS5 := hid h5; have HB5 := hid ((HBA.out _).trans (x5.below (by rw [← HLB.out]; exact HLW.out) (HBA.out _).size)); clear h5 x5)
          go_roundw
          case rel =>
            (repeat apply Exists.intro)
            exact ⟨⟨k + 1, v5, c5, by go_num, by omega, hid (by rw [HNX.out]; exact HS5.out), HB5⟩, rfl⟩
          case measure => simp [intOf]; omega
        · obtain rfl : k = n' := by omega
          have e1 : out.take k = out := List.take_of_length_le (by rw [HLN.out]; exact Nat.le_refl _)
          rw [e1] at HSK
          have HRK := hid (Rk.start (pe := L.pe) (cs := out) (fun c hc => by have := (may_kd (HMAY.out c hc)).1; omega))
          clear e1 HS0 HBW0
          obtain ⟨wy, hwy⟩ : ∃ x, x = wr := ⟨_, rfl⟩
          subst hwy
          go_wp2_with fail
          go_loopw [9] (fun i wr => ∃ (m : Nat) (vFk : Value) (ck : Col) (s : Se), i = .int .i64 (m : Int) ∧ 2 ≤ m ∧ m ≤ 852 ∧ Hid (Sea L wr vFk (.slice none 0 0) ck ⟨s, fun _ => none, 0, []⟩) ∧ Hid (Rk out L.pe m s) ∧ Hid (Below w.heap.size w wr)) (fun i _ => 852 - (intOf i).toNat)
          case atStart => exact ⟨2, vFk, ck, _, rfl, by omega, by omega, HSK, HRK, HBK⟩
          case round =>
            obtain ⟨m, vFm, cm, s, rfl, hm2, hm3, HSM, HRM, HBM⟩ := hrel
            obtain ⟨A1, c1, rfl, -, -, -⟩ := HSM.out.fr.els
            obtain ⟨nf, hnf⟩ : ∃ k, s.fr.length = k := ⟨_, rfl⟩
            have hnf' : (⟨s, fun _ => none, 0, []⟩ : Sx).s.fr.length = nf := hnf
            rw [hnf'] at HSM
            clear hnf'
            have c22 : wr.cell? ⟨sb, 22, none⟩ = some (.slice A1 nf c1) := by have := HSM.out.cell.2.2.2.2.2.1; rw [HSB.out] at this; exact this
            have f22 : wr.frozen? ⟨sb, 22, none⟩ = false := by have := HSM.out.frz 22; rw [HSB.out] at this; exact this
            have HNF := hid hnf
            by_cases h0 : nf = 0
            · subst h0
              go_wp2_with fail
              go_ret
              have hfr : s.fr = [] := List.eq_nil_of_length_eq_zero HNF.out
              exact ⟨L, _, cm, _, by rw [HSB.out]; rfl, by rw [HLC.out]; exact HCT.out, HLB.out, HSM.out, ⟨HPD.out, by rw [HLP.out]; rfl, rfl, rfl, rfl, by rw [HLC.out]; exact HRM.out.rs.stop HPE.out hm2 hfr, by rw [HLC.out]; exact HRM.out.rs.giv, by rw [HLC.out]; exact HMAY.out, by rw [HLC.out]; exact HFEW.out⟩, HBM.out⟩
            · have hp0 : (0 : Int) < (nf : Int) := by omega
              have hmore := HRM.out.more HPE.out (fun e => h0 (by rw [← HNF.out, e]; rfl)) hm2
              have hnfb : nf ≤ 850 := by have h1 := HRM.out.fl; have h2 := HRM.out.rs.knl; have h3 := HHH.out; rw [HNF.out] at h1; omega
              have hm851 : m ≤ 851 := by have := HHH.out; omega
              have hsbg : w.heap.size ≤ sb := by
                rcases Nat.lt_or_ge sb w.heap.size with h1 | h1
                · have h2 := HSM.out.low sb (by rw [HLB.out]; exact h1)
                  have h3 := HSM.out.csb
                  rw [HSB.out, h2] at h3; cases h3
                · exact h1
              obtain ⟨c5, h5, f5, o5⟩ := HSM.out.emptied
              rw [HSB.out] at h5 o5
              have HB5 := hid (HBM.out.setCell (p := ⟨sb, 22, none⟩) hsbg (.slice none 0 0))
              have HOKP := hid HSM.out.sz.fr
              obtain ⟨w5, hw5⟩ : ∃ x, x = wr.setCell ⟨sb, 22, none⟩ (.slice none 0 0) := ⟨_, rfl⟩
              rw [← hw5] at h5 o5 HB5
              have HS5 : Hid (Sea L w5 (.slice none 0 0) (.slice none 0 0) c5 ⟨midC L.pe m s 0, fun _ => none, 0, []⟩) := hid h5
              have HF5 := hid f5
              have HO5 : Hid (Own (E := encP) w5 L.B 58 (.slice A1 nf c1) s.fr) := hid o5
              have HBI : Hid (s.ic + out.length * L.pe.length * (3 * out.length) + 3 * out.length ≤ 10000000000) := hid (by
                have h1 := HRM.out.ic
                have h2 : (m - 2) * (out.length * L.pe.length * (3 * out.length)) ≤ 850 * 127500 := Nat.mul_le_mul (by omega) HAA.out
                have h3 := HAA.out
                have h4 := HFEW.out
                omega)
              clear h5 f5 o5 hmore hsbg
              go_upto_region 17 with fail
              rw [← hw5]
              clear hw5 c22 f22
              obtain ⟨wx, hwx⟩ : ∃ x, x = wr := ⟨_, rfl⟩
              subst hwx
              go_wp2_with fail
              go_loopw [68] (fun i wr => ∃ (k : Nat) (vFj : Value) (cj : Col), i = .int .i64 (k : Int) ∧ k ≤ nf ∧ Hid (Sea L wr vFj (.slice none 0 0) cj ⟨midC L.pe m s k, fun _ => none, 0, []⟩) ∧ Hid (Ext Mf w5 wr c5 cj)) (fun i _ => nf - (intOf i).toNat)
              case atStart => exact ⟨0, .slice none 0 0, c5, rfl, Nat.zero_le _, HS5, hid (Ext.refl _ _ _)⟩
              case round =>
                obtain ⟨k, vFj, cj, rfl, hk, HSJ, HXJ⟩ := hrel
                by_cases hlt3 : k < nf
                · obtain ⟨⟨⟨o, n1⟩, x⟩, hx⟩ : ∃ x, s.fr[k]? = some x := ⟨_, List.getElem?_eq_getElem (by rw [HNF.out]; exact hlt3)⟩
                  have hel : Els encP wr wr.heap.size A1 s.fr := own_els (HO5.out.kept fun g e => HXJ.out.free (HO5.out.lt g e).2 (HF5.out g e))
                  obtain ⟨ad, aj, rfl, hab, ea, hbj, a0, ai⟩ := hel.get hx
                  have a0 := a0 _ rfl
                  have a1 := ai 1 _ (by decide) rfl
                  have a2 := ai 2 _ (by decide) rfl
                  have ea : ad.add (k * 3) = aj := ea
                  have hk0 : (0 : Int) ≤ (k : Int) := Int.natCast_nonneg _
                  have hk1 : (k : Int) < (nf : Int) := by omega
                  have HQ7 := hid ((Below.refl wr.heap.size wr).alloc (Nat.le_refl _) (.cells #[.string o, .string n1, .string x] 58))
                  have hbo := HRM.out.bounds HPE.out hm2 hx HBI.out (by have := HHH.out; omega)
                  have HFO := hid (cfollow_any (HSJ.out.below HQ7.out) HPD.out ((o, n1), x) (HOKP.out _ (List.mem_of_getElem? hx)) m (by omega) (by omega) hbo.1 hbo.2)
                  rw [HSB.out] at HFO
                  have HNX := hid (midC_succ (pe := L.pe) (n := m) hx)
                  clear hx hel hab hbj ai hbo
                  go_wp2_with (go_at_call 45; (refine HFO.out.mono ?_); rintro er w9 ⟨rfl, v9, c9, h9, x9⟩; have HS9 := hid h9; have HX9 := hid x9; clear h9 x9)
                  go_roundw
                  case rel => exact ⟨k + 1, v9, c9, by go_num, by omega, hid (by rw [HNX.out]; exact HS9.out), hid (HXJ.out.trans ((Ext.of_below Mf cj HQ7.out).trans HX9.out))⟩
                  case measure => simp [intOf]; omega
                · obtain rfl : k = nf := by omega
                  have HRN := hid (HRM.out.next HPE.out hm2 (j := k) (by rw [HNF.out]; exact Nat.le_refl _))
                  have HBN := hid (HB5.out.trans (HXJ.out.below (by rw [← HLB.out]; exact HS5.out.low) HB5.out.size))
                  go_wp2_with fail
                  go_roundw
                  case rel =>
                    (repeat apply Exists.intro)
                    exact ⟨⟨m + 1, vFj, cj, _, by go_num, by omega, by omega, HSJ, HRN, HBN⟩, rfl⟩
                  case measure => simp [intOf]; omega
end Go.Proofs.YtoajckhnneagnaaDoor.Sh
