/-
  NARROWER THAN 'FOR EVERY INPUT', by the rows' own cells (each row's printed sentence says how): CredMay: laid · CredPuts: laid · CredReads: laid · CredRound: laid · CredTexts: laid · CredSorts: laid · CredOrder: laid · CredCounts: laid.
  DERIVED. THE GIVEN ROWS OF THIS SEAT. 8 by the template 'for every input the law returns true; each argument reads behind the call as it read before'; 0 by the template 'total and deterministic' (their statements: YtkggagnaiiemlaaDoorTotals.lean).
  GIVEN WITH THE SEED: the statements are not yours to turn. If you find one false, say at which input.
  Laid BY PROGRAM, IN A SANDBOX (cutbox-rows.mjs): the forced cells as the released guide's own fill.sh prints them over the translation 730ae770f666cbad… (all of the seat's roots in one cut). By AI agents, Wed Nov 11 2026. No macro, syntax, notation, axiom, sorry.
-/
import Derived.Test.YtkggagnaiiemlaaDoorChecked
import GoSem.Claim
import GoSem.ClaimJoined
import GoSem.ClaimMapViews
import Derived.JoinedTies
import Derived.KernelRfl
namespace Go.Proofs.YtkggagnaiiemlaaDoor
/- THE CELL 'sum', in the pinned program and in every row, IS THE sha256 OF THE DUMP (.gsa) THAT YtkggagnaiiemlaaDoorProg.lean LOADS. Nothing in Lean hashes anything: it is a label: what it is worth is what the hold of that sum in a sandbox is worth. -/
noncomputable def Tryd.pinned : Pinned := { name := "ytkggagnaiiemlaadoor", sum := "730ae770f666cbad48e1c535ba15420229666ae8b2dd1f1ed73e78342b9d1467", checked := Tryd.checked }
namespace Rows
def none {H : Type} : Left H := { results := [], args := [] }

/- WHAT THE LISTED PACKAGE-LEVEL VARIABLES READ AS WHEN THE CALL BEGINS. Each datum BY PROGRAM (the guide's laid-datum.mjs) off the statement by which the dump's own 'gosem.cut.vars' lays the variable. In a bare row this is a premise. The card (YtkggagnaiiemlaaDoorCards.lean) ties it to the program's text. -/
def laid_math_bits_deBruijn32tab {H : Type} : DataW H := .agg [.lit (.int .u8 0), .lit (.int .u8 1), .lit (.int .u8 28), .lit (.int .u8 2), .lit (.int .u8 29), .lit (.int .u8 14), .lit (.int .u8 24), .lit (.int .u8 3), .lit (.int .u8 30), .lit (.int .u8 22), .lit (.int .u8 20), .lit (.int .u8 15), .lit (.int .u8 25), .lit (.int .u8 17), .lit (.int .u8 4), .lit (.int .u8 8), .lit (.int .u8 31), .lit (.int .u8 27), .lit (.int .u8 13), .lit (.int .u8 23), .lit (.int .u8 21), .lit (.int .u8 19), .lit (.int .u8 16), .lit (.int .u8 7), .lit (.int .u8 26), .lit (.int .u8 12), .lit (.int .u8 18), .lit (.int .u8 6), .lit (.int .u8 11), .lit (.int .u8 5), .lit (.int .u8 10), .lit (.int .u8 9)]
def laid_math_bits_deBruijn64tab {H : Type} : DataW H := .agg [.lit (.int .u8 0), .lit (.int .u8 1), .lit (.int .u8 56), .lit (.int .u8 2), .lit (.int .u8 57), .lit (.int .u8 49), .lit (.int .u8 28), .lit (.int .u8 3), .lit (.int .u8 61), .lit (.int .u8 58), .lit (.int .u8 42), .lit (.int .u8 50), .lit (.int .u8 38), .lit (.int .u8 29), .lit (.int .u8 17), .lit (.int .u8 4), .lit (.int .u8 62), .lit (.int .u8 47), .lit (.int .u8 59), .lit (.int .u8 36), .lit (.int .u8 45), .lit (.int .u8 43), .lit (.int .u8 51), .lit (.int .u8 22), .lit (.int .u8 53), .lit (.int .u8 39), .lit (.int .u8 33), .lit (.int .u8 30), .lit (.int .u8 24), .lit (.int .u8 18), .lit (.int .u8 12), .lit (.int .u8 5), .lit (.int .u8 63), .lit (.int .u8 55), .lit (.int .u8 48), .lit (.int .u8 27), .lit (.int .u8 60), .lit (.int .u8 41), .lit (.int .u8 37), .lit (.int .u8 16), .lit (.int .u8 46), .lit (.int .u8 35), .lit (.int .u8 44), .lit (.int .u8 21), .lit (.int .u8 52), .lit (.int .u8 32), .lit (.int .u8 23), .lit (.int .u8 11), .lit (.int .u8 54), .lit (.int .u8 26), .lit (.int .u8 40), .lit (.int .u8 15), .lit (.int .u8 34), .lit (.int .u8 20), .lit (.int .u8 31), .lit (.int .u8 10), .lit (.int .u8 25), .lit (.int .u8 14), .lit (.int .u8 19), .lit (.int .u8 9), .lit (.int .u8 13), .lit (.int .u8 8), .lit (.int .u8 7), .lit (.int .u8 6)]
def laid_internal_strconv_uint64pow10 {H : Type} : DataW H := .agg [.lit (.int .u64 1), .lit (.int .u64 10), .lit (.int .u64 100), .lit (.int .u64 1000), .lit (.int .u64 10000), .lit (.int .u64 100000), .lit (.int .u64 1000000), .lit (.int .u64 10000000), .lit (.int .u64 100000000), .lit (.int .u64 1000000000), .lit (.int .u64 10000000000), .lit (.int .u64 100000000000), .lit (.int .u64 1000000000000), .lit (.int .u64 10000000000000), .lit (.int .u64 100000000000000), .lit (.int .u64 1000000000000000), .lit (.int .u64 10000000000000000), .lit (.int .u64 100000000000000000), .lit (.int .u64 1000000000000000000), .lit (.int .u64 10000000000000000000)]

/-- 'liverylaw05.CredMay': WHATEVER THE INPUT: true; the input reads as it did. -/
def credMaySpec : ChangeSpec := { name := "credMay", fn := fun _ => fun
  | [d] => { results := [.lit (.bool true)], args := [d] }
  | _ => none }
def credMayRow : OpenClaim := { program := "ytkggagnaiiemlaadoor", sum := "730ae770f666cbad48e1c535ba15420229666ae8b2dd1f1ed73e78342b9d1467", func := "livery/liverylaw05.CredMay", spec := "credMay", named := ["internal/strconv.uint64pow10", "math/bits.deBruijn32tab", "math/bits.deBruijn64tab"], apart := false, laid := [("math/bits.deBruijn32tab", laid_math_bits_deBruijn32tab), ("math/bits.deBruijn64tab", laid_math_bits_deBruijn64tab), ("internal/strconv.uint64pow10", laid_internal_strconv_uint64pow10)] }
def CredMaySaid : Prop := credMayRow.holds Tryd.pinned (OpenSpec.ofChange credMaySpec)

/-- ITS FALSE NEIGHBOUR: 'it returns false'. Refute it at one input. -/
def credMayWrong : ChangeSpec := { name := "credMay", fn := fun _ => fun
  | [d] => { results := [.lit (.bool false)], args := [d] }
  | _ => none }
def CredMayWrongFalsely : Prop := credMayRow.holds Tryd.pinned (OpenSpec.ofChange credMayWrong)

/-- 'liverylaw05.CredPuts': WHATEVER THE INPUT: true; the input reads as it did. -/
def credPutsSpec : ChangeSpec := { name := "credPuts", fn := fun _ => fun
  | [d1, d2] => { results := [.lit (.bool true)], args := [d1, d2] }
  | _ => none }
def credPutsRow : OpenClaim := { program := "ytkggagnaiiemlaadoor", sum := "730ae770f666cbad48e1c535ba15420229666ae8b2dd1f1ed73e78342b9d1467", func := "livery/liverylaw05.CredPuts", spec := "credPuts", named := ["internal/strconv.uint64pow10", "math/bits.deBruijn32tab", "math/bits.deBruijn64tab"], apart := false, laid := [("math/bits.deBruijn32tab", laid_math_bits_deBruijn32tab), ("math/bits.deBruijn64tab", laid_math_bits_deBruijn64tab), ("internal/strconv.uint64pow10", laid_internal_strconv_uint64pow10)] }
def CredPutsSaid : Prop := credPutsRow.holds Tryd.pinned (OpenSpec.ofChange credPutsSpec)

/-- ITS FALSE NEIGHBOUR: 'it returns false'. Refute it at one input. -/
def credPutsWrong : ChangeSpec := { name := "credPuts", fn := fun _ => fun
  | [d1, d2] => { results := [.lit (.bool false)], args := [d1, d2] }
  | _ => none }
def CredPutsWrongFalsely : Prop := credPutsRow.holds Tryd.pinned (OpenSpec.ofChange credPutsWrong)

/-- 'liverylaw05.CredReads': WHATEVER THE INPUT: true; the input reads as it did. -/
def credReadsSpec : ChangeSpec := { name := "credReads", fn := fun _ => fun
  | [d] => { results := [.lit (.bool true)], args := [d] }
  | _ => none }
def credReadsRow : OpenClaim := { program := "ytkggagnaiiemlaadoor", sum := "730ae770f666cbad48e1c535ba15420229666ae8b2dd1f1ed73e78342b9d1467", func := "livery/liverylaw05.CredReads", spec := "credReads", unfollowed := true, recurses := true, named := ["internal/strconv.uint64pow10", "math/bits.deBruijn32tab", "math/bits.deBruijn64tab"], apart := false, laid := [("math/bits.deBruijn32tab", laid_math_bits_deBruijn32tab), ("math/bits.deBruijn64tab", laid_math_bits_deBruijn64tab), ("internal/strconv.uint64pow10", laid_internal_strconv_uint64pow10)] }
def CredReadsSaid : Prop := credReadsRow.holds Tryd.pinned (OpenSpec.ofChange credReadsSpec)

/-- ITS FALSE NEIGHBOUR: 'it returns false'. Refute it at one input. -/
def credReadsWrong : ChangeSpec := { name := "credReads", fn := fun _ => fun
  | [d] => { results := [.lit (.bool false)], args := [d] }
  | _ => none }
def CredReadsWrongFalsely : Prop := credReadsRow.holds Tryd.pinned (OpenSpec.ofChange credReadsWrong)

/-- 'liverylaw05.CredRound': WHATEVER THE INPUT: true; the input reads as it did. -/
def credRoundSpec : ChangeSpec := { name := "credRound", fn := fun _ => fun
  | [d1, d2] => { results := [.lit (.bool true)], args := [d1, d2] }
  | _ => none }
def credRoundRow : OpenClaim := { program := "ytkggagnaiiemlaadoor", sum := "730ae770f666cbad48e1c535ba15420229666ae8b2dd1f1ed73e78342b9d1467", func := "livery/liverylaw05.CredRound", spec := "credRound", unfollowed := true, recurses := true, named := ["internal/strconv.uint64pow10", "math/bits.deBruijn32tab", "math/bits.deBruijn64tab"], apart := false, laid := [("math/bits.deBruijn32tab", laid_math_bits_deBruijn32tab), ("math/bits.deBruijn64tab", laid_math_bits_deBruijn64tab), ("internal/strconv.uint64pow10", laid_internal_strconv_uint64pow10)] }
def CredRoundSaid : Prop := credRoundRow.holds Tryd.pinned (OpenSpec.ofChange credRoundSpec)

/-- ITS FALSE NEIGHBOUR: 'it returns false'. Refute it at one input. -/
def credRoundWrong : ChangeSpec := { name := "credRound", fn := fun _ => fun
  | [d1, d2] => { results := [.lit (.bool false)], args := [d1, d2] }
  | _ => none }
def CredRoundWrongFalsely : Prop := credRoundRow.holds Tryd.pinned (OpenSpec.ofChange credRoundWrong)

/-- 'liverylaw05.CredTexts': WHATEVER THE INPUT: true; the input reads as it did. -/
def credTextsSpec : ChangeSpec := { name := "credTexts", fn := fun _ => fun
  | [d1, d2] => { results := [.lit (.bool true)], args := [d1, d2] }
  | _ => none }
def credTextsRow : OpenClaim := { program := "ytkggagnaiiemlaadoor", sum := "730ae770f666cbad48e1c535ba15420229666ae8b2dd1f1ed73e78342b9d1467", func := "livery/liverylaw05.CredTexts", spec := "credTexts", named := ["internal/strconv.uint64pow10", "math/bits.deBruijn32tab", "math/bits.deBruijn64tab"], apart := false, laid := [("math/bits.deBruijn32tab", laid_math_bits_deBruijn32tab), ("math/bits.deBruijn64tab", laid_math_bits_deBruijn64tab), ("internal/strconv.uint64pow10", laid_internal_strconv_uint64pow10)] }
def CredTextsSaid : Prop := credTextsRow.holds Tryd.pinned (OpenSpec.ofChange credTextsSpec)

/-- ITS FALSE NEIGHBOUR: 'it returns false'. Refute it at one input. -/
def credTextsWrong : ChangeSpec := { name := "credTexts", fn := fun _ => fun
  | [d1, d2] => { results := [.lit (.bool false)], args := [d1, d2] }
  | _ => none }
def CredTextsWrongFalsely : Prop := credTextsRow.holds Tryd.pinned (OpenSpec.ofChange credTextsWrong)

/-- 'liverylaw05.CredSorts': WHATEVER THE INPUT: true; the input reads as it did. -/
def credSortsSpec : ChangeSpec := { name := "credSorts", fn := fun _ => fun
  | [d] => { results := [.lit (.bool true)], args := [d] }
  | _ => none }
def credSortsRow : OpenClaim := { program := "ytkggagnaiiemlaadoor", sum := "730ae770f666cbad48e1c535ba15420229666ae8b2dd1f1ed73e78342b9d1467", func := "livery/liverylaw05.CredSorts", spec := "credSorts", unfollowed := true, recurses := true, named := ["internal/strconv.uint64pow10", "math/bits.deBruijn32tab", "math/bits.deBruijn64tab"], apart := false, laid := [("math/bits.deBruijn32tab", laid_math_bits_deBruijn32tab), ("math/bits.deBruijn64tab", laid_math_bits_deBruijn64tab), ("internal/strconv.uint64pow10", laid_internal_strconv_uint64pow10)] }
def CredSortsSaid : Prop := credSortsRow.holds Tryd.pinned (OpenSpec.ofChange credSortsSpec)

/-- ITS FALSE NEIGHBOUR: 'it returns false'. Refute it at one input. -/
def credSortsWrong : ChangeSpec := { name := "credSorts", fn := fun _ => fun
  | [d] => { results := [.lit (.bool false)], args := [d] }
  | _ => none }
def CredSortsWrongFalsely : Prop := credSortsRow.holds Tryd.pinned (OpenSpec.ofChange credSortsWrong)

/-- 'liverylaw05.CredOrder': WHATEVER THE INPUT: true; the input reads as it did. -/
def credOrderSpec : ChangeSpec := { name := "credOrder", fn := fun _ => fun
  | [d1, d2, d3] => { results := [.lit (.bool true)], args := [d1, d2, d3] }
  | _ => none }
def credOrderRow : OpenClaim := { program := "ytkggagnaiiemlaadoor", sum := "730ae770f666cbad48e1c535ba15420229666ae8b2dd1f1ed73e78342b9d1467", func := "livery/liverylaw05.CredOrder", spec := "credOrder", named := ["internal/strconv.uint64pow10", "math/bits.deBruijn32tab", "math/bits.deBruijn64tab"], apart := false, laid := [("math/bits.deBruijn32tab", laid_math_bits_deBruijn32tab), ("math/bits.deBruijn64tab", laid_math_bits_deBruijn64tab), ("internal/strconv.uint64pow10", laid_internal_strconv_uint64pow10)] }
def CredOrderSaid : Prop := credOrderRow.holds Tryd.pinned (OpenSpec.ofChange credOrderSpec)

/-- ITS FALSE NEIGHBOUR: 'it returns false'. Refute it at one input. -/
def credOrderWrong : ChangeSpec := { name := "credOrder", fn := fun _ => fun
  | [d1, d2, d3] => { results := [.lit (.bool false)], args := [d1, d2, d3] }
  | _ => none }
def CredOrderWrongFalsely : Prop := credOrderRow.holds Tryd.pinned (OpenSpec.ofChange credOrderWrong)

/-- 'liverylaw05.CredCounts': WHATEVER THE INPUT: true; the input reads as it did. -/
def credCountsSpec : ChangeSpec := { name := "credCounts", fn := fun _ => fun
  | [d] => { results := [.lit (.bool true)], args := [d] }
  | _ => none }
def credCountsRow : OpenClaim := { program := "ytkggagnaiiemlaadoor", sum := "730ae770f666cbad48e1c535ba15420229666ae8b2dd1f1ed73e78342b9d1467", func := "livery/liverylaw05.CredCounts", spec := "credCounts", unfollowed := true, recurses := true, named := ["internal/strconv.uint64pow10", "math/bits.deBruijn32tab", "math/bits.deBruijn64tab"], apart := false, laid := [("math/bits.deBruijn32tab", laid_math_bits_deBruijn32tab), ("math/bits.deBruijn64tab", laid_math_bits_deBruijn64tab), ("internal/strconv.uint64pow10", laid_internal_strconv_uint64pow10)] }
def CredCountsSaid : Prop := credCountsRow.holds Tryd.pinned (OpenSpec.ofChange credCountsSpec)

/-- ITS FALSE NEIGHBOUR: 'it returns false'. Refute it at one input. -/
def credCountsWrong : ChangeSpec := { name := "credCounts", fn := fun _ => fun
  | [d] => { results := [.lit (.bool false)], args := [d] }
  | _ => none }
def CredCountsWrongFalsely : Prop := credCountsRow.holds Tryd.pinned (OpenSpec.ofChange credCountsWrong)

/- THE SECOND FORM. 'bulk': how many values and letters a reading holds, each counted each time it is reached (what is shared counts as often as it is met; a slice's spare places count too). A statement '..UptoSaid' is the law's where the arguments, and the package variables that the reading takes, are together of bulk at most 1048576: NARROWER than '..Said'. Prove '..Said' where nothing that the law and all that it calls make is longer than what came in: it says more and counts as full. Else prove '..UptoSaid'. A law counts once. -/
mutual
def uptoBulk {H : Type} : DataW H → Nat
  | .lit (.string bytes) => bytes.length + 1
  | .lit _ => 1
  | .nil => 1
  | .ptr d => uptoBulk d + 1
  | .slice elems spare => uptoBulkAll elems + uptoBulkAll spare + 1
  | .agg parts => uptoBulkAll parts + 1
  | .iface _ d => uptoBulk d + 1
  | .map entries => uptoBulkEntries entries + 1
  | .held _ => 1
def uptoBulkAll {H : Type} : List (DataW H) → Nat
  | [] => 0
  | d :: r => uptoBulk d + uptoBulkAll r
def uptoBulkEntries {H : Type} : List (Lit × DataW H) → Nat
  | [] => 0
  | x :: r => uptoBulkEntry x + uptoBulkEntries r
def uptoBulkEntry {H : Type} : Lit × DataW H → Nat
  | (.string bytes, d) => bytes.length + uptoBulk d + 1
  | (_, d) => uptoBulk d + 1
 end
def uptoSmall : (H : Type) → List (DataW H) → Bool := fun _ ds => decide (uptoBulkAll ds ≤ 1048576)
def OpenSpec.upto (s : _root_.Go.ChangeSpec) : _root_.Go.OpenSpec := { _root_.Go.OpenSpec.ofChange s with cond := some uptoSmall }

/-- 'liverylaw05.CredMay', WHERE WHAT IT READS IS OF BULK AT MOST 1048576: true; the input reads as it did. -/
def credMayUptoRow : OpenClaim := { program := "ytkggagnaiiemlaadoor", sum := "730ae770f666cbad48e1c535ba15420229666ae8b2dd1f1ed73e78342b9d1467", func := "livery/liverylaw05.CredMay", spec := "credMay", named := ["internal/strconv.uint64pow10", "math/bits.deBruijn32tab", "math/bits.deBruijn64tab"], apart := false, laid := [("math/bits.deBruijn32tab", laid_math_bits_deBruijn32tab), ("math/bits.deBruijn64tab", laid_math_bits_deBruijn64tab), ("internal/strconv.uint64pow10", laid_internal_strconv_uint64pow10)], narrowed := true }
def CredMayUptoSaid : Prop := credMayUptoRow.holds Tryd.pinned (OpenSpec.upto credMaySpec)

/-- 'liverylaw05.CredPuts', WHERE WHAT IT READS IS OF BULK AT MOST 1048576: true; the input reads as it did. -/
def credPutsUptoRow : OpenClaim := { program := "ytkggagnaiiemlaadoor", sum := "730ae770f666cbad48e1c535ba15420229666ae8b2dd1f1ed73e78342b9d1467", func := "livery/liverylaw05.CredPuts", spec := "credPuts", named := ["internal/strconv.uint64pow10", "math/bits.deBruijn32tab", "math/bits.deBruijn64tab"], apart := false, laid := [("math/bits.deBruijn32tab", laid_math_bits_deBruijn32tab), ("math/bits.deBruijn64tab", laid_math_bits_deBruijn64tab), ("internal/strconv.uint64pow10", laid_internal_strconv_uint64pow10)], narrowed := true }
def CredPutsUptoSaid : Prop := credPutsUptoRow.holds Tryd.pinned (OpenSpec.upto credPutsSpec)

/-- 'liverylaw05.CredReads', WHERE WHAT IT READS IS OF BULK AT MOST 1048576: true; the input reads as it did. -/
def credReadsUptoRow : OpenClaim := { program := "ytkggagnaiiemlaadoor", sum := "730ae770f666cbad48e1c535ba15420229666ae8b2dd1f1ed73e78342b9d1467", func := "livery/liverylaw05.CredReads", spec := "credReads", unfollowed := true, recurses := true, named := ["internal/strconv.uint64pow10", "math/bits.deBruijn32tab", "math/bits.deBruijn64tab"], apart := false, laid := [("math/bits.deBruijn32tab", laid_math_bits_deBruijn32tab), ("math/bits.deBruijn64tab", laid_math_bits_deBruijn64tab), ("internal/strconv.uint64pow10", laid_internal_strconv_uint64pow10)], narrowed := true }
def CredReadsUptoSaid : Prop := credReadsUptoRow.holds Tryd.pinned (OpenSpec.upto credReadsSpec)

/-- 'liverylaw05.CredRound', WHERE WHAT IT READS IS OF BULK AT MOST 1048576: true; the input reads as it did. -/
def credRoundUptoRow : OpenClaim := { program := "ytkggagnaiiemlaadoor", sum := "730ae770f666cbad48e1c535ba15420229666ae8b2dd1f1ed73e78342b9d1467", func := "livery/liverylaw05.CredRound", spec := "credRound", unfollowed := true, recurses := true, named := ["internal/strconv.uint64pow10", "math/bits.deBruijn32tab", "math/bits.deBruijn64tab"], apart := false, laid := [("math/bits.deBruijn32tab", laid_math_bits_deBruijn32tab), ("math/bits.deBruijn64tab", laid_math_bits_deBruijn64tab), ("internal/strconv.uint64pow10", laid_internal_strconv_uint64pow10)], narrowed := true }
def CredRoundUptoSaid : Prop := credRoundUptoRow.holds Tryd.pinned (OpenSpec.upto credRoundSpec)

/-- 'liverylaw05.CredTexts', WHERE WHAT IT READS IS OF BULK AT MOST 1048576: true; the input reads as it did. -/
def credTextsUptoRow : OpenClaim := { program := "ytkggagnaiiemlaadoor", sum := "730ae770f666cbad48e1c535ba15420229666ae8b2dd1f1ed73e78342b9d1467", func := "livery/liverylaw05.CredTexts", spec := "credTexts", named := ["internal/strconv.uint64pow10", "math/bits.deBruijn32tab", "math/bits.deBruijn64tab"], apart := false, laid := [("math/bits.deBruijn32tab", laid_math_bits_deBruijn32tab), ("math/bits.deBruijn64tab", laid_math_bits_deBruijn64tab), ("internal/strconv.uint64pow10", laid_internal_strconv_uint64pow10)], narrowed := true }
def CredTextsUptoSaid : Prop := credTextsUptoRow.holds Tryd.pinned (OpenSpec.upto credTextsSpec)

/-- 'liverylaw05.CredSorts', WHERE WHAT IT READS IS OF BULK AT MOST 1048576: true; the input reads as it did. -/
def credSortsUptoRow : OpenClaim := { program := "ytkggagnaiiemlaadoor", sum := "730ae770f666cbad48e1c535ba15420229666ae8b2dd1f1ed73e78342b9d1467", func := "livery/liverylaw05.CredSorts", spec := "credSorts", unfollowed := true, recurses := true, named := ["internal/strconv.uint64pow10", "math/bits.deBruijn32tab", "math/bits.deBruijn64tab"], apart := false, laid := [("math/bits.deBruijn32tab", laid_math_bits_deBruijn32tab), ("math/bits.deBruijn64tab", laid_math_bits_deBruijn64tab), ("internal/strconv.uint64pow10", laid_internal_strconv_uint64pow10)], narrowed := true }
def CredSortsUptoSaid : Prop := credSortsUptoRow.holds Tryd.pinned (OpenSpec.upto credSortsSpec)

/-- 'liverylaw05.CredOrder', WHERE WHAT IT READS IS OF BULK AT MOST 1048576: true; the input reads as it did. -/
def credOrderUptoRow : OpenClaim := { program := "ytkggagnaiiemlaadoor", sum := "730ae770f666cbad48e1c535ba15420229666ae8b2dd1f1ed73e78342b9d1467", func := "livery/liverylaw05.CredOrder", spec := "credOrder", named := ["internal/strconv.uint64pow10", "math/bits.deBruijn32tab", "math/bits.deBruijn64tab"], apart := false, laid := [("math/bits.deBruijn32tab", laid_math_bits_deBruijn32tab), ("math/bits.deBruijn64tab", laid_math_bits_deBruijn64tab), ("internal/strconv.uint64pow10", laid_internal_strconv_uint64pow10)], narrowed := true }
def CredOrderUptoSaid : Prop := credOrderUptoRow.holds Tryd.pinned (OpenSpec.upto credOrderSpec)

/-- 'liverylaw05.CredCounts', WHERE WHAT IT READS IS OF BULK AT MOST 1048576: true; the input reads as it did. -/
def credCountsUptoRow : OpenClaim := { program := "ytkggagnaiiemlaadoor", sum := "730ae770f666cbad48e1c535ba15420229666ae8b2dd1f1ed73e78342b9d1467", func := "livery/liverylaw05.CredCounts", spec := "credCounts", unfollowed := true, recurses := true, named := ["internal/strconv.uint64pow10", "math/bits.deBruijn32tab", "math/bits.deBruijn64tab"], apart := false, laid := [("math/bits.deBruijn32tab", laid_math_bits_deBruijn32tab), ("math/bits.deBruijn64tab", laid_math_bits_deBruijn64tab), ("internal/strconv.uint64pow10", laid_internal_strconv_uint64pow10)], narrowed := true }
def CredCountsUptoSaid : Prop := credCountsUptoRow.holds Tryd.pinned (OpenSpec.upto credCountsSpec)

end Rows
end Go.Proofs.YtkggagnaiiemlaaDoor
