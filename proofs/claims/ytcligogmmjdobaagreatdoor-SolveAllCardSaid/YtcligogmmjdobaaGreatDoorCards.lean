/-
  DERIVED. GIVEN WITH THE SEED: THE CARDS: each row of YtcligogmmjdobaaGreatDoorRows.lean that lists a variable, with what it lists TIED to the program's text (the seventh form; the later family's looks); each row that meets fmt, with fmt's text TOLD by the authors' own Lean function (tested against real Go, not proved from fmt's source: count such statements apart). THE CARD IS WHAT COUNTS. Prove the row's statement (the work); the ties are given (YtcligogmmjdobaaGreatDoorTie.lean); close each card by the builder's one call (the guide's Derived/Test/ToyasCard.lean, 'card_holds'). Laid BY PROGRAM, IN A SANDBOX (cutbox-door.mjs). By AI agents, Wed Nov 11 2026. No macro, syntax, notation, axiom, sorry.
-/
import Derived.Test.YtcligogmmjdobaaGreatDoorRows
import GoSem.ClaimSeven
namespace Go.Proofs.YtcligogmmjdobaaGreatDoor
namespace Rows

/-- THE TIED CARD OF 'liverylaw06.SolveAll'. -/
def solveAllCard : Claim7 := { stood := { row := solveAllRow, standIns := [], harness := (true, "1fd92820a6f0d53c60a15182ba67c7a34fc42edc74d762506ed5b43316bb9fbb"), looks := false }, kinds := [], alts := [], laidByText := true, laidKinds := [.data, .data, .data], laidTests := true, laidLooks := .later }
def SolveAllCardSaid : Prop := Claim7.holds Tryz.pinned (.plain (OpenSpec.ofChange solveAllSpec)) solveAllCard

/-- THE TIED CARD OF 'liverylaw06.SolveHas'. -/
def solveHasCard : Claim7 := { stood := { row := solveHasRow, standIns := [], harness := (true, "1fd92820a6f0d53c60a15182ba67c7a34fc42edc74d762506ed5b43316bb9fbb"), looks := false }, kinds := [], alts := [], laidByText := true, laidKinds := [.data, .data, .data], laidTests := true, laidLooks := .later }
def SolveHasCardSaid : Prop := Claim7.holds Tryz.pinned (.plain (OpenSpec.ofChange solveHasSpec)) solveHasCard

/-- THE TIED CARD OF 'liverylaw06.SolveClosed'. -/
def solveClosedCard : Claim7 := { stood := { row := solveClosedRow, standIns := [], harness := (true, "1fd92820a6f0d53c60a15182ba67c7a34fc42edc74d762506ed5b43316bb9fbb"), looks := false }, kinds := [], alts := [], laidByText := true, laidKinds := [.data, .data, .data], laidTests := true, laidLooks := .later }
def SolveClosedCardSaid : Prop := Claim7.holds Tryz.pinned (.plain (OpenSpec.ofChange solveClosedSpec)) solveClosedCard

/-- THE TIED CARD OF 'liverylaw06.SolveLeast'. -/
def solveLeastCard : Claim7 := { stood := { row := solveLeastRow, standIns := [], harness := (true, "1fd92820a6f0d53c60a15182ba67c7a34fc42edc74d762506ed5b43316bb9fbb"), looks := false }, kinds := [], alts := [], laidByText := true, laidKinds := [.data, .data, .data], laidTests := true, laidLooks := .later }
def SolveLeastCardSaid : Prop := Claim7.holds Tryz.pinned (.plain (OpenSpec.ofChange solveLeastSpec)) solveLeastCard

/-- THE TIED CARD OF 'liverylaw07.ProofSound'. -/
def proofSoundCard : Claim7 := { stood := { row := proofSoundRow, standIns := [], harness := (true, "1fd92820a6f0d53c60a15182ba67c7a34fc42edc74d762506ed5b43316bb9fbb"), looks := false }, kinds := [], alts := [], laidByText := true, laidKinds := [.data, .data, .data], laidTests := true, laidLooks := .later }
def ProofSoundCardSaid : Prop := Claim7.holds Tryz.pinned (.plain (OpenSpec.ofChange proofSoundSpec)) proofSoundCard

/-- THE SECOND FORM's CARD OF 'liverylaw06.SolveAll'. -/
def solveAllUptoCard : Claim7 := { stood := { row := solveAllUptoRow, standIns := [], harness := (true, "1fd92820a6f0d53c60a15182ba67c7a34fc42edc74d762506ed5b43316bb9fbb"), looks := false }, kinds := [], alts := [], laidByText := true, laidKinds := [.data, .data, .data], laidTests := true, laidLooks := .later }
def SolveAllUptoCardSaid : Prop := Claim7.holds Tryz.pinned (.plain (OpenSpec.upto solveAllSpec)) solveAllUptoCard

/-- THE SECOND FORM's CARD OF 'liverylaw06.SolveHas'. -/
def solveHasUptoCard : Claim7 := { stood := { row := solveHasUptoRow, standIns := [], harness := (true, "1fd92820a6f0d53c60a15182ba67c7a34fc42edc74d762506ed5b43316bb9fbb"), looks := false }, kinds := [], alts := [], laidByText := true, laidKinds := [.data, .data, .data], laidTests := true, laidLooks := .later }
def SolveHasUptoCardSaid : Prop := Claim7.holds Tryz.pinned (.plain (OpenSpec.upto solveHasSpec)) solveHasUptoCard

/-- THE SECOND FORM's CARD OF 'liverylaw06.SolveClosed'. -/
def solveClosedUptoCard : Claim7 := { stood := { row := solveClosedUptoRow, standIns := [], harness := (true, "1fd92820a6f0d53c60a15182ba67c7a34fc42edc74d762506ed5b43316bb9fbb"), looks := false }, kinds := [], alts := [], laidByText := true, laidKinds := [.data, .data, .data], laidTests := true, laidLooks := .later }
def SolveClosedUptoCardSaid : Prop := Claim7.holds Tryz.pinned (.plain (OpenSpec.upto solveClosedSpec)) solveClosedUptoCard

/-- THE SECOND FORM's CARD OF 'liverylaw06.SolveLeast'. -/
def solveLeastUptoCard : Claim7 := { stood := { row := solveLeastUptoRow, standIns := [], harness := (true, "1fd92820a6f0d53c60a15182ba67c7a34fc42edc74d762506ed5b43316bb9fbb"), looks := false }, kinds := [], alts := [], laidByText := true, laidKinds := [.data, .data, .data], laidTests := true, laidLooks := .later }
def SolveLeastUptoCardSaid : Prop := Claim7.holds Tryz.pinned (.plain (OpenSpec.upto solveLeastSpec)) solveLeastUptoCard

/-- THE SECOND FORM's CARD OF 'liverylaw07.ProofSound'. -/
def proofSoundUptoCard : Claim7 := { stood := { row := proofSoundUptoRow, standIns := [], harness := (true, "1fd92820a6f0d53c60a15182ba67c7a34fc42edc74d762506ed5b43316bb9fbb"), looks := false }, kinds := [], alts := [], laidByText := true, laidKinds := [.data, .data, .data], laidTests := true, laidLooks := .later }
def ProofSoundUptoCardSaid : Prop := Claim7.holds Tryz.pinned (.plain (OpenSpec.upto proofSoundSpec)) proofSoundUptoCard
end Rows
end Go.Proofs.YtcligogmmjdobaaGreatDoor
