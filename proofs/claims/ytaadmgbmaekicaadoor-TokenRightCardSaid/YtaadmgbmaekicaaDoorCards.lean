/-
  DERIVED. GIVEN WITH THE SEED: THE CARDS: each row of YtaadmgbmaekicaaDoorRows.lean that lists a variable, with what it lists TIED to the program's text (the seventh form; the later family's looks); each row that meets fmt, with fmt's text TOLD by the authors' own Lean function (tested against real Go, not proved from fmt's source: count such statements apart). THE CARD IS WHAT COUNTS. Prove the row's statement (the work); the ties are given (YtaadmgbmaekicaaDoorTie.lean); close each card by the builder's one call (the guide's Derived/Test/ToyasCard.lean, 'card_holds'). Laid BY PROGRAM, IN A SANDBOX (cutbox-door.mjs). By AI agents, Wed Nov 11 2026. No macro, syntax, notation, axiom, sorry.
-/
import Derived.Test.YtaadmgbmaekicaaDoorRows
import GoSem.ClaimSeven
namespace Go.Proofs.YtaadmgbmaekicaaDoor
namespace Rows

/-- THE TIED CARD OF 'liverylaw12.TokenVerifies'. -/
def tokenVerifiesCard : Claim7 := { stood := { row := tokenVerifiesRow, standIns := [], harness := (true, "690983fcf511d9602c325dfcf32b9f436bb5cdce2e8883fdc456ab962ae3213c"), looks := false }, kinds := [], alts := [], laidByText := true, laidKinds := [.data], laidTests := true, laidLooks := .later }
def TokenVerifiesCardSaid : Prop := Claim7.holds Tryd.pinned (.plain (OpenSpec.ofChange tokenVerifiesSpec)) tokenVerifiesCard

/-- THE TIED CARD OF 'liverylaw12.TokenRight'. -/
def tokenRightCard : Claim7 := { stood := { row := tokenRightRow, standIns := [], harness := (true, "690983fcf511d9602c325dfcf32b9f436bb5cdce2e8883fdc456ab962ae3213c"), looks := false }, kinds := [], alts := [], laidByText := true, laidKinds := [.data], laidTests := true, laidLooks := .later }
def TokenRightCardSaid : Prop := Claim7.holds Tryd.pinned (.plain (OpenSpec.ofChange tokenRightSpec)) tokenRightCard

/-- THE TIED CARD OF 'liverylaw12.TokenNarrow'. -/
def tokenNarrowCard : Claim7 := { stood := { row := tokenNarrowRow, standIns := [], harness := (true, "690983fcf511d9602c325dfcf32b9f436bb5cdce2e8883fdc456ab962ae3213c"), looks := false }, kinds := [], alts := [], laidByText := true, laidKinds := [.data], laidTests := true, laidLooks := .later }
def TokenNarrowCardSaid : Prop := Claim7.holds Tryd.pinned (.plain (OpenSpec.ofChange tokenNarrowSpec)) tokenNarrowCard

/-- THE TIED CARD OF 'liverylaw12.TokenOwns'. -/
def tokenOwnsCard : Claim7 := { stood := { row := tokenOwnsRow, standIns := [], harness := (true, "690983fcf511d9602c325dfcf32b9f436bb5cdce2e8883fdc456ab962ae3213c"), looks := false }, kinds := [], alts := [], laidByText := true, laidKinds := [.data], laidTests := true, laidLooks := .later }
def TokenOwnsCardSaid : Prop := Claim7.holds Tryd.pinned (.plain (OpenSpec.ofChange tokenOwnsSpec)) tokenOwnsCard

/-- THE SECOND FORM's CARD OF 'liverylaw12.TokenVerifies'. -/
def tokenVerifiesUptoCard : Claim7 := { stood := { row := tokenVerifiesUptoRow, standIns := [], harness := (true, "690983fcf511d9602c325dfcf32b9f436bb5cdce2e8883fdc456ab962ae3213c"), looks := false }, kinds := [], alts := [], laidByText := true, laidKinds := [.data], laidTests := true, laidLooks := .later }
def TokenVerifiesUptoCardSaid : Prop := Claim7.holds Tryd.pinned (.plain (OpenSpec.upto tokenVerifiesSpec)) tokenVerifiesUptoCard

/-- THE SECOND FORM's CARD OF 'liverylaw12.TokenRight'. -/
def tokenRightUptoCard : Claim7 := { stood := { row := tokenRightUptoRow, standIns := [], harness := (true, "690983fcf511d9602c325dfcf32b9f436bb5cdce2e8883fdc456ab962ae3213c"), looks := false }, kinds := [], alts := [], laidByText := true, laidKinds := [.data], laidTests := true, laidLooks := .later }
def TokenRightUptoCardSaid : Prop := Claim7.holds Tryd.pinned (.plain (OpenSpec.upto tokenRightSpec)) tokenRightUptoCard

/-- THE SECOND FORM's CARD OF 'liverylaw12.TokenNarrow'. -/
def tokenNarrowUptoCard : Claim7 := { stood := { row := tokenNarrowUptoRow, standIns := [], harness := (true, "690983fcf511d9602c325dfcf32b9f436bb5cdce2e8883fdc456ab962ae3213c"), looks := false }, kinds := [], alts := [], laidByText := true, laidKinds := [.data], laidTests := true, laidLooks := .later }
def TokenNarrowUptoCardSaid : Prop := Claim7.holds Tryd.pinned (.plain (OpenSpec.upto tokenNarrowSpec)) tokenNarrowUptoCard

/-- THE SECOND FORM's CARD OF 'liverylaw12.TokenOwns'. -/
def tokenOwnsUptoCard : Claim7 := { stood := { row := tokenOwnsUptoRow, standIns := [], harness := (true, "690983fcf511d9602c325dfcf32b9f436bb5cdce2e8883fdc456ab962ae3213c"), looks := false }, kinds := [], alts := [], laidByText := true, laidKinds := [.data], laidTests := true, laidLooks := .later }
def TokenOwnsUptoCardSaid : Prop := Claim7.holds Tryd.pinned (.plain (OpenSpec.upto tokenOwnsSpec)) tokenOwnsUptoCard
end Rows
end Go.Proofs.YtaadmgbmaekicaaDoor
