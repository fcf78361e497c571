/-
  The walk of SumsTogether.
-/
import Derived.Test.YtgfnhmnmbmpfdaaSuLawA
import Derived.Deep.DeepCutAuto
namespace Go.Proofs.Ytgfnhmnmbmpfdaa.Sh
open Go Go.RowKit
set_option linter.unusedVariables false
set_option linter.unusedSimpArgs false
theorem reg_xor (r s : Reg) : bits .xor .i64 (r.toNat : Int) (s.toNat : Int) = ((r ^^^ s).toNat : Int) := by
  rw [i64_xor16 _ _ r.isLt s.isLt, BitVec.toNat_xor]
def xor3 (a b c : List UInt8) : List UInt8 := List.zipWith (· ^^^ ·) (List.zipWith (· ^^^ ·) a b) c
theorem xor3_length {a b c : List UInt8} {m : Nat} (ha : a.length = m) (hb : b.length = m) (hc : c.length = m) : (xor3 a b c).length = m := by
  unfold xor3
  rw [List.length_zipWith, List.length_zipWith]; omega
theorem xor3_get {a b c : List UInt8} {j : Nat} {x y z : UInt8} (hx : a[j]? = some x) (hy : b[j]? = some y) (hz : c[j]? = some z) : (xor3 a b c)[j]? = some (x ^^^ y ^^^ z) := by
  unfold xor3
  simp only [List.getElem?_zipWith, hx, hy, hz]
set_option maxHeartbeats 8000000 in
set_option maxRecDepth 100000 in
theorem sumsTogether_walk (A B C : Option Addr) (la lb lc : List UInt8) (na nb nc ca cb cc : Nat) (hna : la.length = na) (hnb : lb.length = nb) (hnc : lc.length = nc) (hca : na ≤ ca) (hcb : nb ≤ cb) (hcc : nc ≤ cc)
    (ha2 : ca ≤ 9223372036854775807) (hb2 : cb ≤ 9223372036854775807) (hc2 : cc ≤ 9223372036854775807) (w : World) (ha : Byt w w.heap.size A la) (hb : Byt w w.heap.size B lb) (hc : Byt w w.heap.size C lc) :
    Calls Try.prog 6 #[.slice A na ca, .slice B nb cb, .slice C nc cc] w fun e w' => e = .returned (.bool true) ∧ Below w.heap.size w w' := by
  obtain ⟨m1, e1⟩ : ∃ m1 : Nat, m1 = min 300 na := ⟨_, rfl⟩
  obtain ⟨m2, e2⟩ : ∃ m2 : Nat, m2 = min m1 nb := ⟨_, rfl⟩
  obtain ⟨m, e3⟩ : ∃ m3 : Nat, m3 = min m2 nc := ⟨_, rfl⟩
  have hm : m ≤ 300 := by omega
  have hma : m ≤ na := by omega
  have hmb : m ≤ nb := by omega
  have hmc : m ≤ nc := by omega
  have ka := hid (show (la.take m).length = m by rw [List.length_take]; omega)
  have kb := hid (show (lb.take m).length = m by rw [List.length_take]; omega)
  have kc := hid (show (lc.take m).length = m by rw [List.length_take]; omega)
  have HA := hid (fun W (hW : Below w.heap.size w W) => ((ha.below hW).more hW.size).head (hi := m))
  have HB := hid (fun W (hW : Below w.heap.size w W) => ((hb.below hW).more hW.size).head (hi := m))
  have HC := hid (fun W (hW : Below w.heap.size w W) => ((hc.below hW).more hW.size).head (hi := m))
  have YA := ha.head (hi := m)
  have YB := hb.head (hi := m)
  have YC := hc.head (hi := m)
  clear ha hb hc hna hnb hnc
  generalize la.take m = xa at *
  generalize lb.take m = xb at *
  generalize lc.take m = xc at *
  obtain ⟨X, hX⟩ : ∃ X, X = xor3 xa xb xc := ⟨_, rfl⟩
  have HX := hid hX
  have hXl := hid (show X.length = m by rw [hX]; exact xor3_length ka.out kb.out kc.out)
  have HT := hid (show sumS xa ^^^ sumS xb ^^^ sumS xc = sumS X by rw [hX]; exact sumS_three _ _ _ (ka.out.trans kb.out.symm) (kb.out.trans kc.out.symm))
  clear hX
  have HE1 := hid e1
  have HE2 := hid e2
  have HE3 := hid e3
  clear e1 e2 e3
  go_enter Try.func6, Try.ntmps6
  go_upto_if 13 with fail
  go_cut [7] (fun a7 wx => a7 = .int .i64 (m1 : Int) ∧ w = wx)
  case first =>
    by_cases h : (na : Int) < 300
    · have e : (m1 : Int) = (na : Int) := by have := HE1.out; omega
      go_wp2_with fail
      go_meet
      case rel => exact ⟨by rw [e], rfl⟩
    · have e : (m1 : Int) = 300 := by have := HE1.out; omega
      go_wp2_with fail
      go_meet
      case rel => exact ⟨by rw [e], rfl⟩
  case rest =>
    obtain ⟨rfl, rfl⟩ := hcut
    go_upto_if 19 with fail
    go_cut [7] (fun a7 wx => a7 = .int .i64 (m2 : Int) ∧ w = wx)
    case first =>
      by_cases h : (nb : Int) < (m1 : Int)
      · have e : (m2 : Int) = (nb : Int) := by have := HE2.out; omega
        go_wp2_with fail
        go_meet
        case rel => exact ⟨by rw [e], rfl⟩
      · have e : (m2 : Int) = (m1 : Int) := by have := HE2.out; omega
        go_wp2_with fail
        go_meet
        case rel => exact ⟨by rw [e], rfl⟩
    case rest =>
      obtain ⟨rfl, rfl⟩ := hcut
      go_upto_if 25 with fail
      go_cut [7] (fun a7 wx => a7 = .int .i64 (m : Int) ∧ w = wx)
      case first =>
        by_cases h : (nc : Int) < (m2 : Int)
        · have e : (m : Int) = (nc : Int) := by have := HE3.out; omega
          go_wp2_with fail
          go_meet
          case rel => exact ⟨by rw [e], rfl⟩
        · have e : (m : Int) = (m2 : Int) := by have := HE3.out; omega
          go_wp2_with fail
          go_meet
          case rel => exact ⟨by rw [e], rfl⟩
      case rest =>
        obtain ⟨rfl, rfl⟩ := hcut
        go_wp2_with fail
        go_loopw [8, 9] (fun v i wr => ∃ (j : Nat) (A5 : Option Addr) (c5 : Nat), j ≤ m ∧ v = .slice A5 j c5 ∧ i = .int .i64 j ∧ Hid (OwnB wr w.heap.size (.slice A5 j c5) j (X.take j)) ∧ Hid (Below w.heap.size w wr)) (fun _ i _ => m - (intOf i).toNat)
        case atStart => exact ⟨0, none, 0, Nat.zero_le _, rfl, rfl, hid (OwnB.nil _ _), hid (Below.refl _ _)⟩
        case round =>
          obtain ⟨j, A5, c5, hj, rfl, rfl, own, bel⟩ := hrel
          by_cases hlt : j < m
          · obtain ⟨aa, x, rfl, hba, hx, cx⟩ := (HA.out _ bel.out).get (k := j) (by rw [ka.out]; exact hlt)
            obtain ⟨ab, y, rfl, hbb, hy, cy⟩ := (HB.out _ bel.out).get (k := j) (by rw [kb.out]; exact hlt)
            obtain ⟨ac, z, rfl, hbc, hz, cz⟩ := (HC.out _ bel.out).get (k := j) (by rw [kc.out]; exact hlt)
            have HG := hid (xor3_get hx hy hz)
            have hba' : (aa.add j).block < w.heap.size := by
              obtain ⟨ad, e, hb, _⟩ := YA (by rw [ka.out]; omega)
              injection e with e
              rw [block_add, e]; exact hb
            have hbb' : (ab.add j).block < w.heap.size := by
              obtain ⟨ad, e, hb, _⟩ := YB (by rw [kb.out]; omega)
              injection e with e
              rw [block_add, e]; exact hb
            have hbc' : (ac.add j).block < w.heap.size := by
              obtain ⟨ad, e, hb, _⟩ := YC (by rw [kc.out]; omega)
              injection e with e
              rw [block_add, e]; exact hb
            obtain ⟨p, hp⟩ : ∃ p, p = x ^^^ y := ⟨_, rfl⟩
            have e1 := b_xor x y
            rw [← hp] at e1
            obtain ⟨q, hq⟩ : ∃ q, q = p ^^^ z := ⟨_, rfl⟩
            have e2 := b_xor p z
            rw [← hq] at e2
            rw [← hp, ← hq] at HG
            clear hp
            clear hq hx hy hz
            have hj0 : (0 : Int) ≤ (j : Int) := Int.natCast_nonneg _
            have hj1 : (j : Int) < (m : Int) := by omega
            have hj2 : (j : Int) < (na : Int) := by omega
            have hj3 : (j : Int) < (nb : Int) := by omega
            have hj4 : (j : Int) < (nc : Int) := by omega
            have HF : Hid (∀ W : World, Below w.heap.size w W → W.cell? (aa.add j) = some (.int .u8 x.toNat) ∧ W.cell? (ab.add j) = some (.int .u8 y.toNat) ∧ W.cell? (ac.add j) = some (.int .u8 z.toNat)) := hid (fun W hW => ⟨(hW.cell hba').trans ((bel.out.cell hba').symm.trans cx), (hW.cell hbb').trans ((bel.out.cell hbb').symm.trans cy), (hW.cell hbc').trans ((bel.out.cell hbc').symm.trans cz)⟩)
            go_wp2_with fail
            go_region_held3 (fun W => W.cell? (aa.add j) = some (.int .u8 x.toNat) ∧ W.cell? (ab.add j) = some (.int .u8 y.toNat) ∧ W.cell? (ac.add j) = some (.int .u8 z.toNat))
              (first | exact HF.out _ BB.out | go_keep)
              (first
                | (refine step_appB (by rfl) (.tmp 33) (.tmp 48) (by rfl) w.heap.size (.slice A5 j c5) j (X.take j) ((own.out.alloc _).drew) (by rfl) (some ⟨wr.heap.size, 0, none⟩) 1 1 [q] (by rfl) (by rfl) (reads_newd wr #[.int .u8 q.toNat] 5 (0, 0)) (by omega) (by exact le_alloc bel.out.size _) w ((bel.out.alloc bel.out.size _).drew) (j + 1) (by omega) ?_; intro A6 c6 w6 own6 gr6 bel6; have BB := hid bel6; clear gr6 bel6)
                | fail)
            have HR : Hid (OwnB w6 w.heap.size (.slice A6 (j + 1) c6) (j + 1) (X.take (j + 1))) := hid (by
              rw [take_succ_of (HX.out ▸ HG.out)]
              exact own6)
            clear own6 own bel cx cy cz e1 e2
            go_wp2
            go_roundw
            case rel => exact ⟨j + 1, A6, c6, by omega, rfl, by go_num, HR, BB⟩
            case measure => simp [intOf]; omega
          · obtain rfl : j = m := by omega
            have HBD := hid (bel.out.drew)
            have S1 := hid (sum_any A xa j ca ka.out (by omega) wr.drew (HA.out _ HBD.out))
            have S2 := hid (sum_any B xb j cb kb.out (by omega) wr.drew (HB.out _ HBD.out))
            have S3 := hid (sum_any C xc j cc kc.out (by omega) wr.drew (HC.out _ HBD.out))
            have hO : Byt wr wr.heap.size A5 X := by
              have o := own.out
              rw [List.take_of_length_le (by rw [hXl.out]; exact Nat.le_refl _)] at o
              exact o.byt
            have S4 := hid (sum_any A5 X j c5 hXl.out (by omega) wr.drew hO)
            have x1 := reg_xor (sumS xa) (sumS xb)
            have x2 := reg_xor (sumS xa ^^^ sumS xb) (sumS xc)
            rw [HT.out] at x2
            generalize sumS xa ^^^ sumS xb = T at *
            generalize sumS xa = T1 at *
            generalize sumS xb = T2 at *
            generalize sumS xc = T3 at *
            generalize sumS X = T4 at *
            have j0 : (0 : Int) ≤ (j : Int) := Int.natCast_nonneg _
            have j1 : (j : Int) ≤ (ca : Int) := by omega
            have j2 : (j : Int) ≤ (cb : Int) := by omega
            have j3 : (j : Int) ≤ (cc : Int) := by omega
            clear hO own HA HB HC YA YB YC HX HT
            go_wp2_with fail
            go_region_held3 (fun _ => True) (trivial) (first
              | (go_at_call 13; (first | (with_reducible refine S1.out.mono ?_) | (with_reducible refine S2.out.mono ?_) | (with_reducible refine S3.out.mono ?_) | (with_reducible refine S4.out.mono ?_)); rintro er w5 ⟨rfl, rfl⟩)
              | (go_at_call 17; (refine (lives_any _).mono ?_); rintro er w9 ⟨rfl, b9⟩)
              | fail)
            all_goals
              have HXX := hid (HBD.out.trans (b9.mono HBD.out.size))
              go_wp2
              go_ret
              exact ⟨rfl, HXX.out⟩
end Go.Proofs.Ytgfnhmnmbmpfdaa.Sh
