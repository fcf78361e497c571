/-
  A tape: what lasts, the units since, a fuse. Pure.
-/
import Derived.Test.YtdigfbgjefffiaaBaMem
namespace Go.Proofs.Ytdigfbgjefffiaa.Sh

set_option linter.unusedVariables false
set_option linter.unusedSimpArgs false
/-- A unit: its side, the bytes that are kept (below 0: none is cut), its byte. -/
abbrev Un := Int × Int × UInt8
structure TS where
  s0 : List UInt8
  s1 : List UInt8
  us : List Un
  bn : Bool
  lf : Int
def stepU (sd : Int) (b : List UInt8) (u : Un) : List UInt8 := if u.1 = sd then (if 0 ≤ u.2.1 then b.take u.2.1.toNat else b ++ [u.2.2]) else b
def doneU (sd : Int) (b : List UInt8) (us : List Un) : List UInt8 := us.foldl (stepU sd) b
theorem doneU_nil (sd : Int) (b : List UInt8) : doneU sd b [] = b := rfl
theorem doneU_snoc (sd : Int) (b : List UInt8) (us : List Un) (u : Un) : doneU sd b (us ++ [u]) = stepU sd (doneU sd b us) u := by unfold doneU; rw [List.foldl_append]; rfl
theorem doneU_append (sd : Int) (b : List UInt8) (a c : List Un) : doneU sd b (a ++ c) = doneU sd (doneU sd b a) c := by unfold doneU; rw [List.foldl_append]
namespace TS
def safe (S : TS) (sd : Int) : List UInt8 := if sd = 0 then S.s0 else S.s1
def done (S : TS) (sd : Int) (k : Nat) : List UInt8 := doneU sd (S.safe sd) (S.us.take k)
def now (S : TS) (sd : Int) : List UInt8 := doneU sd (S.safe sd) S.us
def ready (S : TS) (sd : Int) : Int := if sd < 0 ∨ 1 < sd then 1 else if S.bn = true ∧ S.lf = 0 then 40 else 0
def burn (S : TS) : TS := if S.bn then { S with lf := S.lf - 1 } else S
def new : TS := ⟨[], [], [], false, 0⟩
def unitsW (sd : Int) (l : List UInt8) : List Un := l.map fun x => (sd, -1, x)
def write (S : TS) (sd : Int) (l : List UInt8) : TS × Int :=
  if S.ready sd ≠ 0 then (S, S.ready sd) else if 65536 < (S.now sd).length + l.length then (S, 42) else ({ S.burn with us := S.us ++ unitsW sd l }, 0)
def trim (S : TS) (sd n : Int) : TS × Int :=
  if S.ready sd ≠ 0 then (S, S.ready sd) else if n < 0 ∨ ((S.now sd).length : Int) < n then (S, 1) else ({ S.burn with us := S.us ++ [(sd, n, 0)] }, 0)
def sync (S : TS) : TS × Int :=
  if S.ready 0 ≠ 0 then (S, S.ready 0) else (⟨S.now 0, S.now 1, [], S.burn.bn, S.burn.lf⟩, 0)
def read (S : TS) (sd : Int) : List UInt8 × Int := if S.ready sd ≠ 0 then ([], S.ready sd) else (S.now sd, 0)
def fuse (S : TS) (n : Int) : TS × Int :=
  if n < 0 ∨ 1099511627776 < n then (S, 1) else ({ S with bn := true, lf := if S.bn = true ∧ S.lf < n then S.lf else n }, 0)
def keep (S : TS) (n : Int) : Nat := ((if n < 0 then -(n + 1) else n) % ((S.us.length : Int) + 1)).toNat
def crash (S : TS) (n : Int) : TS := ⟨S.done 0 (S.keep n), S.done 1 (S.keep n), [], false, 0⟩
theorem done_zero (S : TS) (sd : Int) : S.done sd 0 = S.safe sd := rfl
theorem done_all (S : TS) (sd : Int) {k : Nat} (h : S.us.length ≤ k) : S.done sd k = S.now sd := by unfold done now; rw [List.take_of_length_le h]
theorem done_succ (S : TS) (sd : Int) {k : Nat} {u : Un} (h : S.us[k]? = some u) : S.done sd (k + 1) = stepU sd (S.done sd k) u := by
  unfold done
  rw [List.take_add_one, h]
  exact doneU_snoc _ _ _ _
theorem keep_le (S : TS) (n : Int) : S.keep n ≤ S.us.length := by
  unfold keep
  have h1 := Int.emod_lt_of_pos (if n < 0 then -(n + 1) else n) (show 0 < (S.us.length : Int) + 1 by omega)
  omega
theorem keep_num (S : TS) (n : Int) : ((S.keep n : Nat) : Int) = (if n < 0 then -(n + 1) else n) % ((S.us.length : Int) + 1) := by
  unfold keep
  exact Int.toNat_of_nonneg (Int.emod_nonneg _ (by omega))
/-- What always holds. -/
structure Ok (S : TS) : Prop where
  len : ∀ sd k, (S.done sd k).length ≤ 65536
  cut : ∀ (k : Nat) (u : Un), S.us[k]? = some u → (u.1 = 0 ∨ u.1 = 1) ∧ (0 ≤ u.2.1 → u.2.1 ≤ ((S.done u.1 k).length : Int))
  lf0 : 0 ≤ S.lf
  lf1 : S.lf ≤ 1099511627776
theorem ready_cases (S : TS) (sd : Int) : S.ready sd = 1 ∨ S.ready sd = 40 ∨ S.ready sd = 0 := by
  unfold ready
  split
  · exact .inl rfl
  · split
    · exact .inr (.inl rfl)
    · exact .inr (.inr rfl)
theorem ready_zero {S : TS} {sd : Int} (h : S.ready sd = 0) : (sd = 0 ∨ sd = 1) ∧ (S.bn = true → S.lf ≠ 0) := by
  unfold ready at h
  split at h
  · cases h
  · rename_i h1
    split at h
    · cases h
    · rename_i h2
      exact ⟨by omega, fun hb hl => h2 ⟨hb, hl⟩⟩
theorem burn_us (S : TS) : S.burn.us = S.us := by unfold burn; split <;> rfl
theorem burn_s0 (S : TS) : S.burn.s0 = S.s0 := by unfold burn; split <;> rfl
theorem burn_s1 (S : TS) : S.burn.s1 = S.s1 := by unfold burn; split <;> rfl
theorem burn_bn (S : TS) : S.burn.bn = S.bn := by unfold burn; split <;> rfl
theorem burn_lf (S : TS) : S.burn.lf = if S.bn then S.lf - 1 else S.lf := by unfold burn; split <;> rfl
/-- The fuse may burn. -/
theorem burn_ok {S : TS} {sd : Int} (h : Ok S) (hr : S.ready sd = 0) : 0 ≤ S.burn.lf ∧ S.burn.lf ≤ 1099511627776 := by
  have h0 := h.lf0
  have h1 := h.lf1
  have h2 := (ready_zero hr).2
  rw [burn_lf]
  cases hb : S.bn with
  | false => exact ⟨h0, h1⟩
  | true =>
    have := h2 hb
    simp only [if_true]
    omega
theorem new_ok : Ok new := ⟨fun sd k => by unfold done safe new; simp [doneU], fun k u h => by simp [new] at h, Int.le_refl _, by simp [new]⟩
theorem Ok.safe {S : TS} (h : Ok S) (sd : Int) : (S.safe sd).length ≤ 65536 := h.len sd 0
theorem Ok.now {S : TS} (h : Ok S) (sd : Int) : (S.now sd).length ≤ 65536 := by
  rw [← S.done_all sd (Nat.le_refl _)]
  exact h.len sd _
/-- What was written behind: one byte more. -/
theorem doneU_write (sd : Int) (b l : List UInt8) : doneU sd b (unitsW sd l) = b ++ l := by
  induction l generalizing b with
  | nil => simp [unitsW, doneU]
  | cons x t ih =>
    show doneU sd (stepU sd b (sd, -1, x)) (unitsW sd t) = _
    rw [ih]
    unfold stepU
    simp
theorem doneU_other {sd d : Int} (h : sd ≠ d) (b l : List UInt8) : doneU d b (unitsW sd l) = b := by
  induction l generalizing b with
  | nil => rfl
  | cons x t ih =>
    show doneU d (stepU d b (sd, -1, x)) (unitsW sd t) = _
    rw [ih]
    unfold stepU
    rw [if_neg h]
theorem unitsW_length (sd : Int) (l : List UInt8) : (unitsW sd l).length = l.length := by unfold unitsW; rw [List.length_map]
theorem unitsW_take (sd : Int) (l : List UInt8) (k : Nat) : (unitsW sd l).take k = unitsW sd (l.take k) := by unfold unitsW; rw [List.map_take]
/-- Units more: the safe bytes as they are. -/
theorem done_more (S : TS) (us : List Un) (bn : Bool) (lf : Int) (sd : Int) (k : Nat) : (TS.mk S.s0 S.s1 (S.us ++ us) bn lf).done sd k = if k ≤ S.us.length then S.done sd k else doneU sd (S.now sd) (us.take (k - S.us.length)) := by
  unfold done now TS.safe
  simp only
  rw [List.take_append]
  by_cases h : k ≤ S.us.length
  · rw [show k - S.us.length = 0 by omega, List.take_zero, List.append_nil, if_pos h]
  · rw [List.take_of_length_le (by omega), doneU_append, if_neg h]
theorem eta (S : TS) (us : List Un) : { S.burn with us := us } = TS.mk S.s0 S.s1 us S.burn.bn S.burn.lf := by
  unfold burn; split <;> rfl
theorem write_ok {S : TS} {sd : Int} {l : List UInt8} (h : Ok S) : Ok (S.write sd l).1 := by
  unfold write
  split
  · exact h
  · rename_i hr
    split
    · exact h
    · rename_i hl
      have hr0 : S.ready sd = 0 := by simpa using hr
      have hs := (ready_zero hr0).1
      have hb := burn_ok h hr0
      simp only [eta]
      have key : ∀ d k, (doneU d (S.now d) ((unitsW sd l).take k)).length ≤ 65536 := fun d k => by
        rw [unitsW_take]
        by_cases e : sd = d
        · subst e
          rw [doneU_write, List.length_append, List.length_take]
          omega
        · rw [doneU_other e]
          exact h.now d
      refine ⟨fun d k => ?_, fun k u hu => ?_, hb.1, hb.2⟩
      · rw [done_more]
        split
        · exact h.len d k
        · exact key d _
      · simp only at hu
        rcases Nat.lt_or_ge k S.us.length with hk | hk
        · rw [List.getElem?_append_left hk] at hu
          obtain ⟨h1, h2⟩ := h.cut k u hu
          refine ⟨h1, fun h3 => ?_⟩
          rw [done_more, if_pos (by omega)]
          exact h2 h3
        · rw [List.getElem?_append_right hk] at hu
          unfold unitsW at hu
          rw [List.getElem?_map, Option.map_eq_some_iff] at hu
          obtain ⟨x, _, rfl⟩ := hu
          exact ⟨hs, fun h3 => by simp at h3⟩
theorem trim_ok {S : TS} {sd n : Int} (h : Ok S) : Ok (S.trim sd n).1 := by
  unfold trim
  split
  · exact h
  · rename_i hr
    split
    · exact h
    · rename_i hl
      have hr0 : S.ready sd = 0 := by simpa using hr
      have hs := (ready_zero hr0).1
      have hb := burn_ok h hr0
      simp only [eta]
      refine ⟨fun d k => ?_, fun k u hu => ?_, hb.1, hb.2⟩
      · rw [done_more]
        split
        · exact h.len d k
        · rename_i hk
          obtain ⟨j, hj⟩ : ∃ j, k - S.us.length = j + 1 := ⟨k - S.us.length - 1, by omega⟩
          rw [hj]
          simp only [List.take_succ_cons, List.take_nil]
          show (stepU d (S.now d) (sd, n, 0)).length ≤ 65536
          have := h.now d
          unfold stepU
          split
          · simp only
            split
            · rw [List.length_take]; omega
            · omega
          · exact this
      · simp only at hu
        rcases Nat.lt_or_ge k S.us.length with hk | hk
        · rw [List.getElem?_append_left hk] at hu
          obtain ⟨h1, h2⟩ := h.cut k u hu
          refine ⟨h1, fun h3 => ?_⟩
          rw [done_more, if_pos (by omega)]
          exact h2 h3
        · rw [List.getElem?_append_right hk] at hu
          have hk2 : k = S.us.length := by
            have := (List.getElem?_eq_some_iff.1 hu).1
            simp at this; omega
          subst hk2
          simp at hu
          subst hu
          refine ⟨hs, fun h3 => ?_⟩
          rw [done_more, if_pos (Nat.le_refl _), S.done_all _ (Nat.le_refl _)]
          simp only
          omega
theorem flat_ok {a b : List UInt8} {bn : Bool} {lf : Int} (ha : a.length ≤ 65536) (hb : b.length ≤ 65536) (h0 : 0 ≤ lf) (h1 : lf ≤ 1099511627776) : Ok ⟨a, b, [], bn, lf⟩ := by
  refine ⟨fun d k => ?_, fun k u hu => by simp at hu, h0, h1⟩
  unfold done TS.safe
  simp only [List.take_nil, doneU_nil]
  split
  · exact ha
  · exact hb
theorem sync_ok {S : TS} (h : Ok S) : Ok S.sync.1 := by
  unfold sync
  split
  · exact h
  · rename_i hr
    have hb := burn_ok h (show S.ready 0 = 0 by simpa using hr)
    exact flat_ok (h.now 0) (h.now 1) hb.1 hb.2
theorem fuse_ok {S : TS} {n : Int} (h : Ok S) : Ok (S.fuse n).1 := by
  unfold fuse
  split
  · exact h
  · have h0 := h.lf0
    have h1 := h.lf1
    refine ⟨h.len, h.cut, ?_, ?_⟩ <;> simp only <;> split <;> omega
theorem crash_ok {S : TS} {n : Int} (h : Ok S) : Ok (S.crash n) := flat_ok (h.len 0 _) (h.len 1 _) (Int.le_refl _) (by omega)
/-- How many units there may be behind each. -/
theorem write_us {S : TS} {sd : Int} {l : List UInt8} : (S.write sd l).1.us.length ≤ S.us.length + l.length := by
  unfold write
  split
  · exact Nat.le_add_right _ _
  · split
    · exact Nat.le_add_right _ _
    · simp only [List.length_append, unitsW_length]; exact Nat.le_refl _
theorem trim_us {S : TS} {sd n : Int} : (S.trim sd n).1.us.length ≤ S.us.length + 1 := by
  unfold trim
  split
  · exact Nat.le_add_right _ _
  · split
    · exact Nat.le_add_right _ _
    · simp
theorem sync_us {S : TS} : S.sync.1.us.length ≤ S.us.length := by
  unfold sync
  split
  · exact Nat.le_refl _
  · exact Nat.zero_le _
theorem fuse_us {S : TS} {n : Int} : (S.fuse n).1.us = S.us := by unfold fuse; split <;> rfl
end TS
end Go.Proofs.Ytdigfbgjefffiaa.Sh
