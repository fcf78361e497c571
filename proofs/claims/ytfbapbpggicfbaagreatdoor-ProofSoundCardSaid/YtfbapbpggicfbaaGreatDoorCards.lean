/-
  DERIVED. GIVEN WITH THE SEED: THE CARDS: each row of YtfbapbpggicfbaaGreatDoorRows.lean that lists a variable, with what it lists TIED to the program's text (the seventh form; the later family's looks); each row that meets fmt, with fmt's text TOLD by the authors' own Lean function (tested against real Go, not proved from fmt's source: count such statements apart). THE CARD IS WHAT COUNTS. Prove the row's statement (the work); the ties are given (YtfbapbpggicfbaaGreatDoorTie.lean); close each card by the builder's one call (the guide's Derived/Test/ToyasCard.lean, 'card_holds'). Laid BY PROGRAM, IN A SANDBOX (cutbox-door.mjs). By AI agents, Wed Nov 11 2026. No macro, syntax, notation, axiom, sorry.
-/
import Derived.Test.YtfbapbpggicfbaaGreatDoorRows
import GoSem.ClaimSeven
namespace Go.Proofs.YtfbapbpggicfbaaGreatDoor
namespace Rows

/-- THE TIED CARD OF 'liverylaw07.ProofSound'. -/
def proofSoundCard : Claim7 := { stood := { row := proofSoundRow, standIns := [], harness := (true, "c7092eccce627fae50e8c9d4657853d05ea9c85a32f7b6f8189c1690d8aa7e63"), looks := false }, kinds := [], alts := [], laidByText := true, laidKinds := [.data, .data, .data], laidTests := true, laidLooks := .later }
def ProofSoundCardSaid : Prop := Claim7.holds Tryz.pinned (.plain (OpenSpec.ofChange proofSoundSpec)) proofSoundCard

/-- THE SECOND FORM's CARD OF 'liverylaw07.ProofSound'. -/
def proofSoundUptoCard : Claim7 := { stood := { row := proofSoundUptoRow, standIns := [], harness := (true, "c7092eccce627fae50e8c9d4657853d05ea9c85a32f7b6f8189c1690d8aa7e63"), looks := false }, kinds := [], alts := [], laidByText := true, laidKinds := [.data, .data, .data], laidTests := true, laidLooks := .later }
def ProofSoundUptoCardSaid : Prop := Claim7.holds Tryz.pinned (.plain (OpenSpec.upto proofSoundSpec)) proofSoundUptoCard
end Rows
end Go.Proofs.YtfbapbpggicfbaaGreatDoor
