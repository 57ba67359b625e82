/-
  No cell of these rows narrows 'for every input' (looked for: loops, veiled, ifaces, maps, wideKeys, modest, calm, conditions, laid).
  DERIVED. THE GIVEN ROWS OF THIS SEAT. 5 by the template 'for every input the law returns true; each argument reads behind the call as it read before'; 0 by the template 'total and deterministic' (their statements: YtjmgmbigbkllgaaTotals.lean).
  GIVEN WITH THE SEED: the statements are not yours to turn. If you find one false, say at which input.
  Laid BY PROGRAM, IN A SANDBOX (cutbox-rows.mjs): the forced cells as the released guide's own fill.sh prints them over the translation 9b99d8ea0fd24515… (all of the seat's roots in one cut). By AI agents, Wed Nov 11 2026. No macro, syntax, notation, axiom, sorry.
-/
import Derived.Test.YtjmgmbigbkllgaaChecked
import GoSem.Claim
import GoSem.ClaimJoined
import GoSem.ClaimMapViews
import Derived.JoinedTies
import Derived.KernelRfl
namespace Go.Proofs.Ytjmgmbigbkllgaa
/- THE CELL 'sum', in the pinned program and in every row, IS THE sha256 OF THE DUMP (.gsa) THAT YtjmgmbigbkllgaaProg.lean LOADS. Nothing in Lean hashes anything: it is a label: what it is worth is what the hold of that sum in a sandbox is worth. -/
noncomputable def Try.pinned : Pinned := { name := "ytjmgmbigbkllgaa", sum := "9b99d8ea0fd24515b5b08cd8f044c9f2e945aad1c7499e2e98ff13e3538966ea", checked := Try.checked }
namespace Rows
def none {H : Type} : Left H := { results := [], args := [] }

/-- 'steadfastlaw10.ObjectsOf': WHATEVER THE INPUT: true; the input reads as it did. -/
def objectsOfSpec : ChangeSpec := { name := "objectsOf", fn := fun _ => fun
  | [d1, d2, d3] => { results := [.lit (.bool true)], args := [d1, d2, d3] }
  | _ => none }
def objectsOfRow : OpenClaim := { program := "ytjmgmbigbkllgaa", sum := "9b99d8ea0fd24515b5b08cd8f044c9f2e945aad1c7499e2e98ff13e3538966ea", func := "steadfast/steadfastlaw10.ObjectsOf", spec := "objectsOf", unfollowed := true, recurses := true, apart := false }
def ObjectsOfSaid : Prop := objectsOfRow.holds Try.pinned (OpenSpec.ofChange objectsOfSpec)

/-- ITS FALSE NEIGHBOUR: 'it returns false'. Refute it at one input. -/
def objectsOfWrong : ChangeSpec := { name := "objectsOf", fn := fun _ => fun
  | [d1, d2, d3] => { results := [.lit (.bool false)], args := [d1, d2, d3] }
  | _ => none }
def ObjectsOfWrongFalsely : Prop := objectsOfRow.holds Try.pinned (OpenSpec.ofChange objectsOfWrong)

/-- 'steadfastlaw10.ObjectsKeep': WHATEVER THE INPUT: true; the input reads as it did. -/
def objectsKeepSpec : ChangeSpec := { name := "objectsKeep", fn := fun _ => fun
  | [d1, d2] => { results := [.lit (.bool true)], args := [d1, d2] }
  | _ => none }
def objectsKeepRow : OpenClaim := { program := "ytjmgmbigbkllgaa", sum := "9b99d8ea0fd24515b5b08cd8f044c9f2e945aad1c7499e2e98ff13e3538966ea", func := "steadfast/steadfastlaw10.ObjectsKeep", spec := "objectsKeep", unfollowed := true, recurses := true, apart := false }
def ObjectsKeepSaid : Prop := objectsKeepRow.holds Try.pinned (OpenSpec.ofChange objectsKeepSpec)

/-- ITS FALSE NEIGHBOUR: 'it returns false'. Refute it at one input. -/
def objectsKeepWrong : ChangeSpec := { name := "objectsKeep", fn := fun _ => fun
  | [d1, d2] => { results := [.lit (.bool false)], args := [d1, d2] }
  | _ => none }
def ObjectsKeepWrongFalsely : Prop := objectsKeepRow.holds Try.pinned (OpenSpec.ofChange objectsKeepWrong)

/-- 'steadfastlaw10.ObjectsFree': WHATEVER THE INPUT: true; the input reads as it did. -/
def objectsFreeSpec : ChangeSpec := { name := "objectsFree", fn := fun _ => fun
  | [d1, d2] => { results := [.lit (.bool true)], args := [d1, d2] }
  | _ => none }
def objectsFreeRow : OpenClaim := { program := "ytjmgmbigbkllgaa", sum := "9b99d8ea0fd24515b5b08cd8f044c9f2e945aad1c7499e2e98ff13e3538966ea", func := "steadfast/steadfastlaw10.ObjectsFree", spec := "objectsFree", unfollowed := true, recurses := true, apart := false }
def ObjectsFreeSaid : Prop := objectsFreeRow.holds Try.pinned (OpenSpec.ofChange objectsFreeSpec)

/-- ITS FALSE NEIGHBOUR: 'it returns false'. Refute it at one input. -/
def objectsFreeWrong : ChangeSpec := { name := "objectsFree", fn := fun _ => fun
  | [d1, d2] => { results := [.lit (.bool false)], args := [d1, d2] }
  | _ => none }
def ObjectsFreeWrongFalsely : Prop := objectsFreeRow.holds Try.pinned (OpenSpec.ofChange objectsFreeWrong)

/-- 'steadfastlaw10.ObjectsRoom': WHATEVER THE INPUT: true; the input reads as it did. -/
def objectsRoomSpec : ChangeSpec := { name := "objectsRoom", fn := fun _ => fun
  | [d1, d2, d3] => { results := [.lit (.bool true)], args := [d1, d2, d3] }
  | _ => none }
def objectsRoomRow : OpenClaim := { program := "ytjmgmbigbkllgaa", sum := "9b99d8ea0fd24515b5b08cd8f044c9f2e945aad1c7499e2e98ff13e3538966ea", func := "steadfast/steadfastlaw10.ObjectsRoom", spec := "objectsRoom", unfollowed := true, recurses := true, apart := false }
def ObjectsRoomSaid : Prop := objectsRoomRow.holds Try.pinned (OpenSpec.ofChange objectsRoomSpec)

/-- ITS FALSE NEIGHBOUR: 'it returns false'. Refute it at one input. -/
def objectsRoomWrong : ChangeSpec := { name := "objectsRoom", fn := fun _ => fun
  | [d1, d2, d3] => { results := [.lit (.bool false)], args := [d1, d2, d3] }
  | _ => none }
def ObjectsRoomWrongFalsely : Prop := objectsRoomRow.holds Try.pinned (OpenSpec.ofChange objectsRoomWrong)

/-- 'steadfastlaw10.ObjectsOnce': WHATEVER THE INPUT: true; the input reads as it did. -/
def objectsOnceSpec : ChangeSpec := { name := "objectsOnce", fn := fun _ => fun
  | [d1, d2] => { results := [.lit (.bool true)], args := [d1, d2] }
  | _ => none }
def objectsOnceRow : OpenClaim := { program := "ytjmgmbigbkllgaa", sum := "9b99d8ea0fd24515b5b08cd8f044c9f2e945aad1c7499e2e98ff13e3538966ea", func := "steadfast/steadfastlaw10.ObjectsOnce", spec := "objectsOnce", unfollowed := true, recurses := true, apart := false }
def ObjectsOnceSaid : Prop := objectsOnceRow.holds Try.pinned (OpenSpec.ofChange objectsOnceSpec)

/-- ITS FALSE NEIGHBOUR: 'it returns false'. Refute it at one input. -/
def objectsOnceWrong : ChangeSpec := { name := "objectsOnce", fn := fun _ => fun
  | [d1, d2] => { results := [.lit (.bool false)], args := [d1, d2] }
  | _ => none }
def ObjectsOnceWrongFalsely : Prop := objectsOnceRow.holds Try.pinned (OpenSpec.ofChange objectsOnceWrong)

/- THE SECOND FORM. 'bulk': how many values and letters a reading holds, each counted each time it is reached (what is shared counts as often as it is met; a slice's spare places count too). A statement '..UptoSaid' is the law's where the arguments, and the package variables that the reading takes, are together of bulk at most 1048576: NARROWER than '..Said'. Prove '..Said' where nothing that the law and all that it calls make is longer than what came in: it says more and counts as full. Else prove '..UptoSaid'. A law counts once. -/
mutual
def uptoBulk {H : Type} : DataW H → Nat
  | .lit (.string bytes) => bytes.length + 1
  | .lit _ => 1
  | .nil => 1
  | .ptr d => uptoBulk d + 1
  | .slice elems spare => uptoBulkAll elems + uptoBulkAll spare + 1
  | .agg parts => uptoBulkAll parts + 1
  | .iface _ d => uptoBulk d + 1
  | .map entries => uptoBulkEntries entries + 1
  | .held _ => 1
def uptoBulkAll {H : Type} : List (DataW H) → Nat
  | [] => 0
  | d :: r => uptoBulk d + uptoBulkAll r
def uptoBulkEntries {H : Type} : List (Lit × DataW H) → Nat
  | [] => 0
  | x :: r => uptoBulkEntry x + uptoBulkEntries r
def uptoBulkEntry {H : Type} : Lit × DataW H → Nat
  | (.string bytes, d) => bytes.length + uptoBulk d + 1
  | (_, d) => uptoBulk d + 1
 end
def uptoSmall : (H : Type) → List (DataW H) → Bool := fun _ ds => decide (uptoBulkAll ds ≤ 1048576)
def OpenSpec.upto (s : _root_.Go.ChangeSpec) : _root_.Go.OpenSpec := { _root_.Go.OpenSpec.ofChange s with cond := some uptoSmall }

/-- 'steadfastlaw10.ObjectsOf', WHERE WHAT IT READS IS OF BULK AT MOST 1048576: true; the input reads as it did. -/
def objectsOfUptoRow : OpenClaim := { program := "ytjmgmbigbkllgaa", sum := "9b99d8ea0fd24515b5b08cd8f044c9f2e945aad1c7499e2e98ff13e3538966ea", func := "steadfast/steadfastlaw10.ObjectsOf", spec := "objectsOf", unfollowed := true, recurses := true, apart := false, narrowed := true }
def ObjectsOfUptoSaid : Prop := objectsOfUptoRow.holds Try.pinned (OpenSpec.upto objectsOfSpec)

/-- 'steadfastlaw10.ObjectsKeep', WHERE WHAT IT READS IS OF BULK AT MOST 1048576: true; the input reads as it did. -/
def objectsKeepUptoRow : OpenClaim := { program := "ytjmgmbigbkllgaa", sum := "9b99d8ea0fd24515b5b08cd8f044c9f2e945aad1c7499e2e98ff13e3538966ea", func := "steadfast/steadfastlaw10.ObjectsKeep", spec := "objectsKeep", unfollowed := true, recurses := true, apart := false, narrowed := true }
def ObjectsKeepUptoSaid : Prop := objectsKeepUptoRow.holds Try.pinned (OpenSpec.upto objectsKeepSpec)

/-- 'steadfastlaw10.ObjectsFree', WHERE WHAT IT READS IS OF BULK AT MOST 1048576: true; the input reads as it did. -/
def objectsFreeUptoRow : OpenClaim := { program := "ytjmgmbigbkllgaa", sum := "9b99d8ea0fd24515b5b08cd8f044c9f2e945aad1c7499e2e98ff13e3538966ea", func := "steadfast/steadfastlaw10.ObjectsFree", spec := "objectsFree", unfollowed := true, recurses := true, apart := false, narrowed := true }
def ObjectsFreeUptoSaid : Prop := objectsFreeUptoRow.holds Try.pinned (OpenSpec.upto objectsFreeSpec)

/-- 'steadfastlaw10.ObjectsRoom', WHERE WHAT IT READS IS OF BULK AT MOST 1048576: true; the input reads as it did. -/
def objectsRoomUptoRow : OpenClaim := { program := "ytjmgmbigbkllgaa", sum := "9b99d8ea0fd24515b5b08cd8f044c9f2e945aad1c7499e2e98ff13e3538966ea", func := "steadfast/steadfastlaw10.ObjectsRoom", spec := "objectsRoom", unfollowed := true, recurses := true, apart := false, narrowed := true }
def ObjectsRoomUptoSaid : Prop := objectsRoomUptoRow.holds Try.pinned (OpenSpec.upto objectsRoomSpec)

/-- 'steadfastlaw10.ObjectsOnce', WHERE WHAT IT READS IS OF BULK AT MOST 1048576: true; the input reads as it did. -/
def objectsOnceUptoRow : OpenClaim := { program := "ytjmgmbigbkllgaa", sum := "9b99d8ea0fd24515b5b08cd8f044c9f2e945aad1c7499e2e98ff13e3538966ea", func := "steadfast/steadfastlaw10.ObjectsOnce", spec := "objectsOnce", unfollowed := true, recurses := true, apart := false, narrowed := true }
def ObjectsOnceUptoSaid : Prop := objectsOnceUptoRow.holds Try.pinned (OpenSpec.upto objectsOnceSpec)

end Rows
end Go.Proofs.Ytjmgmbigbkllgaa
