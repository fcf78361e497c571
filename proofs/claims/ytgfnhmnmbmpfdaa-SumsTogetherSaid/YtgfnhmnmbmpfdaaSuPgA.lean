/-
  A byte's bits, one by one: the program's goto.
-/
import Derived.Test.YtgfnhmnmbmpfdaaSuNum
import Derived.ScopeJumps
import Derived.WalkMore
namespace Go.Proofs.Ytgfnhmnmbmpfdaa.Sh
open Go Go.RowKit
set_option linter.unusedVariables false
set_option linter.unusedSimpArgs false
set_option maxRecDepth 1000000 in
set_option maxHeartbeats 2000000 in
theorem after_any (s : Reg) (x : UInt8) (w : World) :
    Calls Try.prog 18 #[.int .u16 s.toNat, .int .u8 x.toNat] w fun e w' => e = .returned (.int .u16 (runS s (bitsB x)).toNat) ∧ w = w' := by
  have hs : s.toNat < 65536 := s.isLt
  have hx : x.toNat < 256 := lt8 x
  have H0 : Hid (runS s (lowB x (7 + 1)) = runS s (bitsB x)) := hid rfl
  generalize runS s (bitsB x) = T at *
  go_enter Try.func18, Try.ntmps18
  go_wp2
  refine wp_scope_jumps 0 (fun a' w' => w = w' ∧ ∃ (m : Nat) (v : Reg) (u6 u7 u8 u9 u10 u11 u12 u13 u14 u15 u16 u17 u18 u19 u20 u21 u22 u23 u24 u25 : Value), a' = { tmps := #[.int .u16 v.toNat, .int .u8 x.toNat, undef, undef, .int .u16 0, .int .i64 m, u6, u7, u8, u9, u10, u11, u12, u13, u14, u15, u16, u17, u18, u19, u20, u21, u22, u23, u24, u25], defers := [] } ∧ m ≤ 6 ∧ Hid (runS v (lowB x (m + 1)) = T)) (fun a' _ => (intOf (a'.tmps.getD 5 undef)).toNat) rfl ?_ ?_
  · go_wp2
    go_step3
    go_wp2
    all_goals
      go_step3
      first
      | (have hb : (bits .xor .u16 ((s.toNat : Int) / 32768) (IntKind.u16.wrap (bits .and .u8 ((x.toNat : Int) / 128) 1)) == 1) = true := by assumption
         rw [is7P] at hb
         have E := oneP hb
         rw [E]
         exact ⟨rfl, rfl, 6, _, _, _, _, _, _, _, _, _, _, _, _, _, _, _, _, _, _, _, _, _, rfl, Nat.le_refl _, H0⟩)
      | (have hb : (bits .xor .u16 ((s.toNat : Int) / 32768) (IntKind.u16.wrap (bits .and .u8 ((x.toNat : Int) / 128) 1)) == 1) = false := by assumption
         rw [is7P] at hb
         have E := nilP hb
         rw [E]
         exact ⟨rfl, rfl, 6, _, _, _, _, _, _, _, _, _, _, _, _, _, _, _, _, _, _, _, _, _, rfl, Nat.le_refl _, H0⟩)
  · rintro a' w' ⟨rfl, m, v, u6, u7, u8, u9, u10, u11, u12, u13, u14, u15, u16, u17, u18, u19, u20, u21, u22, u23, u24, u25, rfl, hm, hH⟩
    have hv : v.toNat < 65536 := v.isLt
    by_cases h0 : 0 < m
    · have HK : Hid (∃ k, m = k + 1) := hid ⟨m - 1, by omega⟩
      go_wp2
      all_goals
        go_step3
        obtain ⟨k, rfl⟩ := HK.out
        have e1 : ((k + 1 : Nat) : Int) - 1 = (k : Int) := by omega
        first
        | (have hb : (bits .xor .u16 ((v.toNat : Int) / 32768) (IntKind.u16.wrap (bits .and .u8 ((x.toNat : Int) / 2 ^ (k + 1)) 1)) == 1) = true := by assumption
           rw [isP] at hb
           have E := oneP hb
           rw [E, e1]
           refine ⟨rfl, ⟨rfl, k, _, _, _, _, _, _, _, _, _, _, _, _, _, _, _, _, _, _, _, _, _, rfl, by omega, hH⟩, ?_⟩
           simp [intOf])
        | (have hb : (bits .xor .u16 ((v.toNat : Int) / 32768) (IntKind.u16.wrap (bits .and .u8 ((x.toNat : Int) / 2 ^ (k + 1)) 1)) == 1) = false := by assumption
           rw [isP] at hb
           have E := nilP hb
           rw [E, e1]
           refine ⟨rfl, ⟨rfl, k, _, _, _, _, _, _, _, _, _, _, _, _, _, _, _, _, _, _, _, _, _, rfl, by omega, hH⟩, ?_⟩
           simp [intOf])
    · have HK : Hid (m = 0) := hid (by omega)
      go_wp2
      all_goals
        obtain rfl := HK.out
        first
        | (have hb : (bits .xor .u16 ((v.toNat : Int) / 32768) (IntKind.u16.wrap (bits .and .u8 ((x.toNat : Int) / 2 ^ 0) 1)) == 1) = true := by assumption
           rw [isP] at hb
           have E := oneP hb
           rw [E]
           simp only [Exit.jump]
           go_ret
           exact ⟨by rw [← hH.out]; rfl, rfl⟩)
        | (have hb : (bits .xor .u16 ((v.toNat : Int) / 32768) (IntKind.u16.wrap (bits .and .u8 ((x.toNat : Int) / 2 ^ 0) 1)) == 1) = false := by assumption
           rw [isP] at hb
           have E := nilP hb
           rw [E]
           simp only [Exit.jump]
           go_ret
           exact ⟨by rw [← hH.out]; rfl, rfl⟩)
end Go.Proofs.Ytgfnhmnmbmpfdaa.Sh
