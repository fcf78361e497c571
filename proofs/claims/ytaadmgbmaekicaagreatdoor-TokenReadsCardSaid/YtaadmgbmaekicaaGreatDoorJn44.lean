/-
  The document's example of layer 12, pure: what is minted, narrowed, allowed and verified there.
-/
import Derived.Test.YtaadmgbmaekicaaGreatDoorJn30
set_option linter.unusedVariables false
set_option linter.unusedSimpArgs false
namespace Go.Proofs.YtaadmgbmaekicaaGreatDoor.Sh
open Go Go.RowKit

set_option linter.unusedSimpArgs false
set_option linter.unusedVariables false
def lD1 : ByteArray := ⟨#[100, 49]⟩
def lA : ByteArray := ⟨#[97]⟩
def lB : ByteArray := ⟨#[98]⟩
def lAnn : ByteArray := ⟨#[97, 110, 110]⟩
def lK : List UInt8 := [107]
def lL : List UInt8 := [108]
def lT0 : Tok := ⟨1, 1, 1, lAnn, [(lD1, lA), (lD1, lB)], 40, [], [], []⟩
def lC1 : Cav := ⟨1, [(lD1, lB)], 0, E0⟩
def lC2 : Cav := ⟨2, [], 30, E0⟩
def lX : Tok := mintT lK lT0
def lY : Tok := narrowT lX lC1
def lV : Tok := narrowT lY lC2
theorem rollsAB : Rolls [(lD1, lA), (lD1, lB)] := by
  refine ⟨by simp, by decide +kernel, fun i a b ha hb => ?_⟩
  rcases i with _ | i
  · simp only [List.getElem?_cons_zero, List.getElem?_cons_succ, Option.some.injEq, Nat.zero_add] at ha hb
    subst ha; subst hb
    decide +kernel
  · simp at hb
theorem rollsB1 : Rolls [(lD1, lB)] := ⟨by simp, by decide +kernel, fun i a b ha hb => by simp at hb⟩
theorem lok0 : OkTok (bareT lT0) :=
  ⟨by simp [bareT, lT0], by simp [bareT, lT0], by simp [bareT, lT0], by simp [bareT, lT0], by decide +kernel, rollsAB, by simp [bareT, lT0], by simp [bareT, lT0], by simp [bareT, lT0], by simp [bareT], by show Ids []; exact Ids.nil, by simp [bareT, lT0]⟩
theorem lokX : OkTok lX := lok0.mint
theorem lokC1 : OkCav lC1 := .inl ⟨rfl, rollsB1, rfl, rfl⟩
theorem lokC2 : OkCav lC2 := .inr (.inl ⟨rfl, rfl, by simp [lC2], by simp [lC2], rfl⟩)
theorem lX_cavs : lX.cavs = [] := rfl
theorem lY_cavs : lY.cavs = [lC1] := rfl
theorem lV_cavs : lV.cavs = [lC1, lC2] := rfl
theorem lokY : OkTok lY := lokX.narrow lokC1 (by rw [lX_cavs]; simp)
theorem lokV : OkTok lV := lokY.narrow lokC2 (by rw [lY_cavs]; simp)
theorem l_mintE : mintE lT0 = 0 := mintE_zero.2 lok0
theorem l_mintR : mintR lK lT0 = lX := if_pos lok0
theorem l_narE1 : narE lX lC1 = 0 := narE_zero.2 ⟨lokX, by rw [lX_cavs]; simp, lokC1⟩
theorem l_narR1 : narR lX lC1 = lY := by unfold narR; rw [l_narE1]; exact if_pos rfl
theorem l_narE2 : narE lY lC2 = 0 := narE_zero.2 ⟨lokY, by rw [lY_cavs]; simp, lokC2⟩
theorem l_narR2 : narR lY lC2 = lV := by unfold narR; rw [l_narE2]; exact if_pos rfl
theorem lAB : ((lD1, lA) : Ro) ≠ (lD1, lB) := by decide +kernel
theorem keepA {cs : List Cav} (h : lC1 ∈ cs) : keepsR cs (lD1, lA) = false := by
  rw [← Bool.not_eq_true, keepsR_iff]
  intro h2
  have := h2 lC1 h rfl
  simp only [lC1, List.mem_singleton] at this
  exact lAB this
theorem keepBY : keepsR [lC1] (lD1, lB) = true := keepsR_iff.2 fun c hc _ => by
  rw [List.mem_singleton.1 hc]; simp [lC1]
theorem keepBV : keepsR [lC1, lC2] (lD1, lB) = true := keepsR_iff.2 fun c hc hk => by
  simp only [List.mem_cons, List.not_mem_nil, or_false] at hc
  rcases hc with rfl | rfl
  · simp [lC1]
  · simp [lC2] at hk
theorem l_rolesY : rolesT lY = [(lD1, lB)] := by
  show ([(lD1, lA), (lD1, lB)] : List Ro).filter (keepsR [lC1]) = _
  rw [List.filter_cons, keepA (by simp), List.filter_cons, keepBY]; rfl
theorem l_rolesV : rolesT lV = [(lD1, lB)] := by
  show ([(lD1, lA), (lD1, lB)] : List Ro).filter (keepsR [lC1, lC2]) = _
  rw [List.filter_cons, keepA (by simp), List.filter_cons, keepBV]; rfl
theorem l_untilY : untilT lY = 40 := by decide +kernel
theorem l_untilV : untilT lV = 30 := by decide +kernel
theorem l_allow1 : allowE lY (lD1, lA) E0 1 = 23 := by
  unfold allowE
  rw [l_untilY, l_rolesY, if_neg (by decide), if_pos (by simp only [List.mem_singleton]; exact lAB)]
theorem l_allow2 : allowE lV (lD1, lB) E0 30 = 21 := by
  unfold allowE
  rw [l_untilV, if_pos (by decide)]
theorem l_allow3 : allowE lV (lD1, lB) E0 29 = 0 := by
  unfold allowE
  rw [l_untilV, l_rolesV, if_neg (by decide), if_neg (by simp), if_neg]
  rintro ⟨c, hc, hk, _⟩
  rw [lV_cavs] at hc
  simp only [List.mem_cons, List.not_mem_nil, or_false] at hc
  rcases hc with rfl | rfl
  · simp [lC1] at hk
  · simp [lC2] at hk
theorem l_ver1 : verE lK lV = 0 := ((RightT.mint (key := lK) lok0).narrow lokC1 (by rw [show (mintT lK lT0).cavs = [] from rfl]; simp)).narrow lokC2 (by rw [show (narrowT (mintT lK lT0) lC1).cavs = [lC1] from rfl]; simp) |>.ver
set_option maxRecDepth 100000 in
theorem l_ver2' : ¬ lastT lL lV = lV.tag := by decide +kernel
theorem l_ver2 : verE lL lV = 20 := by unfold verE; rw [if_pos lokV, if_neg l_ver2']
end Go.Proofs.YtaadmgbmaekicaaGreatDoor.Sh
