/-
  No cell of these rows narrows 'for every input' (looked for: loops, veiled, ifaces, maps, wideKeys, modest, calm, conditions, laid).
  DERIVED. THE GIVEN ROWS OF THIS SEAT. 4 by the template 'for every input the law returns true; each argument reads behind the call as it read before'; 0 by the template 'total and deterministic' (their statements: YtkimhdcngagmaaaTotals.lean).
  GIVEN WITH THE SEED: the statements are not yours to turn. If you find one false, say at which input.
  Laid BY PROGRAM, IN A SANDBOX (cutbox-rows.mjs): the forced cells as the released guide's own fill.sh prints them over the translation ed88cf70dcd83782… (all of the seat's roots in one cut). By AI agents, Wed Nov 11 2026. No macro, syntax, notation, axiom, sorry.
-/
import Derived.Test.YtkimhdcngagmaaaChecked
import GoSem.Claim
import GoSem.ClaimJoined
import GoSem.ClaimMapViews
import Derived.JoinedTies
import Derived.KernelRfl
namespace Go.Proofs.Ytkimhdcngagmaaa
/- THE CELL 'sum', in the pinned program and in every row, IS THE sha256 OF THE DUMP (.gsa) THAT YtkimhdcngagmaaaProg.lean LOADS. Nothing in Lean hashes anything: it is a label: what it is worth is what the hold of that sum in a sandbox is worth. -/
noncomputable def Try.pinned : Pinned := { name := "ytkimhdcngagmaaa", sum := "ed88cf70dcd83782f82865d9bd0a73a575f7e169191c4ce1d0c45c0afafbb252", checked := Try.checked }
namespace Rows
def none {H : Type} : Left H := { results := [], args := [] }

/-- 'liverylaw13.LeasePlays': WHATEVER THE INPUT: true; the input reads as it did. -/
def leasePlaysSpec : ChangeSpec := { name := "leasePlays", fn := fun _ => fun
  | [d1, d2, d3, d4] => { results := [.lit (.bool true)], args := [d1, d2, d3, d4] }
  | _ => none }
def leasePlaysRow : OpenClaim := { program := "ytkimhdcngagmaaa", sum := "ed88cf70dcd83782f82865d9bd0a73a575f7e169191c4ce1d0c45c0afafbb252", func := "livery/liverylaw13.LeasePlays", spec := "leasePlays", unfollowed := true, recurses := true, apart := false }
def LeasePlaysSaid : Prop := leasePlaysRow.holds Try.pinned (OpenSpec.ofChange leasePlaysSpec)

/-- ITS FALSE NEIGHBOUR: 'it returns false'. Refute it at one input. -/
def leasePlaysWrong : ChangeSpec := { name := "leasePlays", fn := fun _ => fun
  | [d1, d2, d3, d4] => { results := [.lit (.bool false)], args := [d1, d2, d3, d4] }
  | _ => none }
def LeasePlaysWrongFalsely : Prop := leasePlaysRow.holds Try.pinned (OpenSpec.ofChange leasePlaysWrong)

/-- 'liverylaw13.LeaseShort': WHATEVER THE INPUT: true; the input reads as it did. -/
def leaseShortSpec : ChangeSpec := { name := "leaseShort", fn := fun _ => fun
  | [d1, d2, d3] => { results := [.lit (.bool true)], args := [d1, d2, d3] }
  | _ => none }
def leaseShortRow : OpenClaim := { program := "ytkimhdcngagmaaa", sum := "ed88cf70dcd83782f82865d9bd0a73a575f7e169191c4ce1d0c45c0afafbb252", func := "livery/liverylaw13.LeaseShort", spec := "leaseShort", unfollowed := true, recurses := true, apart := false }
def LeaseShortSaid : Prop := leaseShortRow.holds Try.pinned (OpenSpec.ofChange leaseShortSpec)

/-- ITS FALSE NEIGHBOUR: 'it returns false'. Refute it at one input. -/
def leaseShortWrong : ChangeSpec := { name := "leaseShort", fn := fun _ => fun
  | [d1, d2, d3] => { results := [.lit (.bool false)], args := [d1, d2, d3] }
  | _ => none }
def LeaseShortWrongFalsely : Prop := leaseShortRow.holds Try.pinned (OpenSpec.ofChange leaseShortWrong)

/-- 'liverylaw13.LeaseWanes': WHATEVER THE INPUT: true; the input reads as it did. -/
def leaseWanesSpec : ChangeSpec := { name := "leaseWanes", fn := fun _ => fun
  | [d1, d2, d3, d4] => { results := [.lit (.bool true)], args := [d1, d2, d3, d4] }
  | _ => none }
def leaseWanesRow : OpenClaim := { program := "ytkimhdcngagmaaa", sum := "ed88cf70dcd83782f82865d9bd0a73a575f7e169191c4ce1d0c45c0afafbb252", func := "livery/liverylaw13.LeaseWanes", spec := "leaseWanes", unfollowed := true, recurses := true, apart := false }
def LeaseWanesSaid : Prop := leaseWanesRow.holds Try.pinned (OpenSpec.ofChange leaseWanesSpec)

/-- ITS FALSE NEIGHBOUR: 'it returns false'. Refute it at one input. -/
def leaseWanesWrong : ChangeSpec := { name := "leaseWanes", fn := fun _ => fun
  | [d1, d2, d3, d4] => { results := [.lit (.bool false)], args := [d1, d2, d3, d4] }
  | _ => none }
def LeaseWanesWrongFalsely : Prop := leaseWanesRow.holds Try.pinned (OpenSpec.ofChange leaseWanesWrong)

/-- 'liverylaw13.LeaseOwns': WHATEVER THE INPUT: true; the input reads as it did. -/
def leaseOwnsSpec : ChangeSpec := { name := "leaseOwns", fn := fun _ => fun
  | [d1, d2, d3] => { results := [.lit (.bool true)], args := [d1, d2, d3] }
  | _ => none }
def leaseOwnsRow : OpenClaim := { program := "ytkimhdcngagmaaa", sum := "ed88cf70dcd83782f82865d9bd0a73a575f7e169191c4ce1d0c45c0afafbb252", func := "livery/liverylaw13.LeaseOwns", spec := "leaseOwns", unfollowed := true, recurses := true, apart := false }
def LeaseOwnsSaid : Prop := leaseOwnsRow.holds Try.pinned (OpenSpec.ofChange leaseOwnsSpec)

/-- ITS FALSE NEIGHBOUR: 'it returns false'. Refute it at one input. -/
def leaseOwnsWrong : ChangeSpec := { name := "leaseOwns", fn := fun _ => fun
  | [d1, d2, d3] => { results := [.lit (.bool false)], args := [d1, d2, d3] }
  | _ => none }
def LeaseOwnsWrongFalsely : Prop := leaseOwnsRow.holds Try.pinned (OpenSpec.ofChange leaseOwnsWrong)

/- THE SECOND FORM. 'bulk': how many values and letters a reading holds, each counted each time it is reached (what is shared counts as often as it is met; a slice's spare places count too). A statement '..UptoSaid' is the law's where the arguments, and the package variables that the reading takes, are together of bulk at most 1048576: NARROWER than '..Said'. Prove '..Said' where nothing that the law and all that it calls make is longer than what came in: it says more and counts as full. Else prove '..UptoSaid'. A law counts once. -/
mutual
def uptoBulk {H : Type} : DataW H → Nat
  | .lit (.string bytes) => bytes.length + 1
  | .lit _ => 1
  | .nil => 1
  | .ptr d => uptoBulk d + 1
  | .slice elems spare => uptoBulkAll elems + uptoBulkAll spare + 1
  | .agg parts => uptoBulkAll parts + 1
  | .iface _ d => uptoBulk d + 1
  | .map entries => uptoBulkEntries entries + 1
  | .held _ => 1
def uptoBulkAll {H : Type} : List (DataW H) → Nat
  | [] => 0
  | d :: r => uptoBulk d + uptoBulkAll r
def uptoBulkEntries {H : Type} : List (Lit × DataW H) → Nat
  | [] => 0
  | x :: r => uptoBulkEntry x + uptoBulkEntries r
def uptoBulkEntry {H : Type} : Lit × DataW H → Nat
  | (.string bytes, d) => bytes.length + uptoBulk d + 1
  | (_, d) => uptoBulk d + 1
 end
def uptoSmall : (H : Type) → List (DataW H) → Bool := fun _ ds => decide (uptoBulkAll ds ≤ 1048576)
def OpenSpec.upto (s : _root_.Go.ChangeSpec) : _root_.Go.OpenSpec := { _root_.Go.OpenSpec.ofChange s with cond := some uptoSmall }

/-- 'liverylaw13.LeasePlays', WHERE WHAT IT READS IS OF BULK AT MOST 1048576: true; the input reads as it did. -/
def leasePlaysUptoRow : OpenClaim := { program := "ytkimhdcngagmaaa", sum := "ed88cf70dcd83782f82865d9bd0a73a575f7e169191c4ce1d0c45c0afafbb252", func := "livery/liverylaw13.LeasePlays", spec := "leasePlays", unfollowed := true, recurses := true, apart := false, narrowed := true }
def LeasePlaysUptoSaid : Prop := leasePlaysUptoRow.holds Try.pinned (OpenSpec.upto leasePlaysSpec)

/-- 'liverylaw13.LeaseShort', WHERE WHAT IT READS IS OF BULK AT MOST 1048576: true; the input reads as it did. -/
def leaseShortUptoRow : OpenClaim := { program := "ytkimhdcngagmaaa", sum := "ed88cf70dcd83782f82865d9bd0a73a575f7e169191c4ce1d0c45c0afafbb252", func := "livery/liverylaw13.LeaseShort", spec := "leaseShort", unfollowed := true, recurses := true, apart := false, narrowed := true }
def LeaseShortUptoSaid : Prop := leaseShortUptoRow.holds Try.pinned (OpenSpec.upto leaseShortSpec)

/-- 'liverylaw13.LeaseWanes', WHERE WHAT IT READS IS OF BULK AT MOST 1048576: true; the input reads as it did. -/
def leaseWanesUptoRow : OpenClaim := { program := "ytkimhdcngagmaaa", sum := "ed88cf70dcd83782f82865d9bd0a73a575f7e169191c4ce1d0c45c0afafbb252", func := "livery/liverylaw13.LeaseWanes", spec := "leaseWanes", unfollowed := true, recurses := true, apart := false, narrowed := true }
def LeaseWanesUptoSaid : Prop := leaseWanesUptoRow.holds Try.pinned (OpenSpec.upto leaseWanesSpec)

/-- 'liverylaw13.LeaseOwns', WHERE WHAT IT READS IS OF BULK AT MOST 1048576: true; the input reads as it did. -/
def leaseOwnsUptoRow : OpenClaim := { program := "ytkimhdcngagmaaa", sum := "ed88cf70dcd83782f82865d9bd0a73a575f7e169191c4ce1d0c45c0afafbb252", func := "livery/liverylaw13.LeaseOwns", spec := "leaseOwns", unfollowed := true, recurses := true, apart := false, narrowed := true }
def LeaseOwnsUptoSaid : Prop := leaseOwnsUptoRow.holds Try.pinned (OpenSpec.upto leaseOwnsSpec)

end Rows
end Go.Proofs.Ytkimhdcngagmaaa
