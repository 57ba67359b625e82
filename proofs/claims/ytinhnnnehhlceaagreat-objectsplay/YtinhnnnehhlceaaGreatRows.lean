/-
  No cell of these rows narrows 'for every input' (looked for: loops, veiled, ifaces, maps, wideKeys, modest, calm, conditions, laid).
  DERIVED. THE GIVEN ROWS OF THIS SEAT. 4 by the template 'for every input the law returns true; each argument reads behind the call as it read before'; 0 by the template 'total and deterministic' (their statements: YtinhnnnehhlceaaGreatTotals.lean).
  GIVEN WITH THE SEED: the statements are not yours to turn. If you find one false, say at which input.
  Laid BY PROGRAM, IN A SANDBOX (cutbox-rows.mjs): the forced cells as the released guide's own fill.sh prints them over the translation b293e3827a8fe0aa… (all of the seat's roots in one cut). By AI agents, Wed Nov 11 2026. No macro, syntax, notation, axiom, sorry.
-/
import Derived.Test.YtinhnnnehhlceaaGreatChecked
import GoSem.Claim
import GoSem.ClaimJoined
import GoSem.ClaimMapViews
import Derived.JoinedTies
import Derived.KernelRfl
namespace Go.Proofs.YtinhnnnehhlceaaGreat
/- THE CELL 'sum', in the pinned program and in every row, IS THE sha256 OF THE DUMP (.gsa) THAT YtinhnnnehhlceaaGreatProg.lean LOADS. Nothing in Lean hashes anything: it is a label: what it is worth is what the hold of that sum in a sandbox is worth. -/
noncomputable def Tryz.pinned : Pinned := { name := "ytinhnnnehhlceaagreat", sum := "b293e3827a8fe0aa9d5fbabdaf1537e8984bbc5eb6afd19676a098596fd8b753", checked := Tryz.checked }
namespace Rows
def none {H : Type} : Left H := { results := [], args := [] }

/-- 'steadfastlaw11.SnapPlays': WHATEVER THE INPUT: true; the input reads as it did. -/
def snapPlaysSpec : ChangeSpec := { name := "snapPlays", fn := fun _ => fun
  | [d1, d2, d3] => { results := [.lit (.bool true)], args := [d1, d2, d3] }
  | _ => none }
def snapPlaysRow : OpenClaim := { program := "ytinhnnnehhlceaagreat", sum := "b293e3827a8fe0aa9d5fbabdaf1537e8984bbc5eb6afd19676a098596fd8b753", func := "steadfast/steadfastlaw11.SnapPlays", spec := "snapPlays", unfollowed := true, recurses := true, apart := false }
def SnapPlaysSaid : Prop := snapPlaysRow.holds Tryz.pinned (OpenSpec.ofChange snapPlaysSpec)

/-- ITS FALSE NEIGHBOUR: 'it returns false'. Refute it at one input. -/
def snapPlaysWrong : ChangeSpec := { name := "snapPlays", fn := fun _ => fun
  | [d1, d2, d3] => { results := [.lit (.bool false)], args := [d1, d2, d3] }
  | _ => none }
def SnapPlaysWrongFalsely : Prop := snapPlaysRow.holds Tryz.pinned (OpenSpec.ofChange snapPlaysWrong)

/-- 'steadfastlaw11.SnapCommits': WHATEVER THE INPUT: true; the input reads as it did. -/
def snapCommitsSpec : ChangeSpec := { name := "snapCommits", fn := fun _ => fun
  | [d1, d2, d3] => { results := [.lit (.bool true)], args := [d1, d2, d3] }
  | _ => none }
def snapCommitsRow : OpenClaim := { program := "ytinhnnnehhlceaagreat", sum := "b293e3827a8fe0aa9d5fbabdaf1537e8984bbc5eb6afd19676a098596fd8b753", func := "steadfast/steadfastlaw11.SnapCommits", spec := "snapCommits", unfollowed := true, recurses := true, apart := false }
def SnapCommitsSaid : Prop := snapCommitsRow.holds Tryz.pinned (OpenSpec.ofChange snapCommitsSpec)

/-- ITS FALSE NEIGHBOUR: 'it returns false'. Refute it at one input. -/
def snapCommitsWrong : ChangeSpec := { name := "snapCommits", fn := fun _ => fun
  | [d1, d2, d3] => { results := [.lit (.bool false)], args := [d1, d2, d3] }
  | _ => none }
def SnapCommitsWrongFalsely : Prop := snapCommitsRow.holds Tryz.pinned (OpenSpec.ofChange snapCommitsWrong)

/-- 'steadfastlaw11.SnapPower': WHATEVER THE INPUT: true; the input reads as it did. -/
def snapPowerSpec : ChangeSpec := { name := "snapPower", fn := fun _ => fun
  | [d1, d2, d3] => { results := [.lit (.bool true)], args := [d1, d2, d3] }
  | _ => none }
def snapPowerRow : OpenClaim := { program := "ytinhnnnehhlceaagreat", sum := "b293e3827a8fe0aa9d5fbabdaf1537e8984bbc5eb6afd19676a098596fd8b753", func := "steadfast/steadfastlaw11.SnapPower", spec := "snapPower", unfollowed := true, recurses := true, apart := false }
def SnapPowerSaid : Prop := snapPowerRow.holds Tryz.pinned (OpenSpec.ofChange snapPowerSpec)

/-- ITS FALSE NEIGHBOUR: 'it returns false'. Refute it at one input. -/
def snapPowerWrong : ChangeSpec := { name := "snapPower", fn := fun _ => fun
  | [d1, d2, d3] => { results := [.lit (.bool false)], args := [d1, d2, d3] }
  | _ => none }
def SnapPowerWrongFalsely : Prop := snapPowerRow.holds Tryz.pinned (OpenSpec.ofChange snapPowerWrong)

/-- 'steadfastlaw10.ObjectsPlay': WHATEVER THE INPUT: true; the input reads as it did. -/
def objectsPlaySpec : ChangeSpec := { name := "objectsPlay", fn := fun _ => fun
  | [d1, d2, d3] => { results := [.lit (.bool true)], args := [d1, d2, d3] }
  | _ => none }
def objectsPlayRow : OpenClaim := { program := "ytinhnnnehhlceaagreat", sum := "b293e3827a8fe0aa9d5fbabdaf1537e8984bbc5eb6afd19676a098596fd8b753", func := "steadfast/steadfastlaw10.ObjectsPlay", spec := "objectsPlay", unfollowed := true, recurses := true, apart := false }
def ObjectsPlaySaid : Prop := objectsPlayRow.holds Tryz.pinned (OpenSpec.ofChange objectsPlaySpec)

/-- ITS FALSE NEIGHBOUR: 'it returns false'. Refute it at one input. -/
def objectsPlayWrong : ChangeSpec := { name := "objectsPlay", fn := fun _ => fun
  | [d1, d2, d3] => { results := [.lit (.bool false)], args := [d1, d2, d3] }
  | _ => none }
def ObjectsPlayWrongFalsely : Prop := objectsPlayRow.holds Tryz.pinned (OpenSpec.ofChange objectsPlayWrong)

/- THE SECOND FORM. 'bulk': how many values and letters a reading holds, each counted each time it is reached (what is shared counts as often as it is met; a slice's spare places count too). A statement '..UptoSaid' is the law's where the arguments, and the package variables that the reading takes, are together of bulk at most 1048576: NARROWER than '..Said'. Prove '..Said' where nothing that the law and all that it calls make is longer than what came in: it says more and counts as full. Else prove '..UptoSaid'. A law counts once. -/
mutual
def uptoBulk {H : Type} : DataW H → Nat
  | .lit (.string bytes) => bytes.length + 1
  | .lit _ => 1
  | .nil => 1
  | .ptr d => uptoBulk d + 1
  | .slice elems spare => uptoBulkAll elems + uptoBulkAll spare + 1
  | .agg parts => uptoBulkAll parts + 1
  | .iface _ d => uptoBulk d + 1
  | .map entries => uptoBulkEntries entries + 1
  | .held _ => 1
def uptoBulkAll {H : Type} : List (DataW H) → Nat
  | [] => 0
  | d :: r => uptoBulk d + uptoBulkAll r
def uptoBulkEntries {H : Type} : List (Lit × DataW H) → Nat
  | [] => 0
  | x :: r => uptoBulkEntry x + uptoBulkEntries r
def uptoBulkEntry {H : Type} : Lit × DataW H → Nat
  | (.string bytes, d) => bytes.length + uptoBulk d + 1
  | (_, d) => uptoBulk d + 1
 end
def uptoSmall : (H : Type) → List (DataW H) → Bool := fun _ ds => decide (uptoBulkAll ds ≤ 1048576)
def OpenSpec.upto (s : _root_.Go.ChangeSpec) : _root_.Go.OpenSpec := { _root_.Go.OpenSpec.ofChange s with cond := some uptoSmall }

/-- 'steadfastlaw11.SnapPlays', WHERE WHAT IT READS IS OF BULK AT MOST 1048576: true; the input reads as it did. -/
def snapPlaysUptoRow : OpenClaim := { program := "ytinhnnnehhlceaagreat", sum := "b293e3827a8fe0aa9d5fbabdaf1537e8984bbc5eb6afd19676a098596fd8b753", func := "steadfast/steadfastlaw11.SnapPlays", spec := "snapPlays", unfollowed := true, recurses := true, apart := false, narrowed := true }
def SnapPlaysUptoSaid : Prop := snapPlaysUptoRow.holds Tryz.pinned (OpenSpec.upto snapPlaysSpec)

/-- 'steadfastlaw11.SnapCommits', WHERE WHAT IT READS IS OF BULK AT MOST 1048576: true; the input reads as it did. -/
def snapCommitsUptoRow : OpenClaim := { program := "ytinhnnnehhlceaagreat", sum := "b293e3827a8fe0aa9d5fbabdaf1537e8984bbc5eb6afd19676a098596fd8b753", func := "steadfast/steadfastlaw11.SnapCommits", spec := "snapCommits", unfollowed := true, recurses := true, apart := false, narrowed := true }
def SnapCommitsUptoSaid : Prop := snapCommitsUptoRow.holds Tryz.pinned (OpenSpec.upto snapCommitsSpec)

/-- 'steadfastlaw11.SnapPower', WHERE WHAT IT READS IS OF BULK AT MOST 1048576: true; the input reads as it did. -/
def snapPowerUptoRow : OpenClaim := { program := "ytinhnnnehhlceaagreat", sum := "b293e3827a8fe0aa9d5fbabdaf1537e8984bbc5eb6afd19676a098596fd8b753", func := "steadfast/steadfastlaw11.SnapPower", spec := "snapPower", unfollowed := true, recurses := true, apart := false, narrowed := true }
def SnapPowerUptoSaid : Prop := snapPowerUptoRow.holds Tryz.pinned (OpenSpec.upto snapPowerSpec)

/-- 'steadfastlaw10.ObjectsPlay', WHERE WHAT IT READS IS OF BULK AT MOST 1048576: true; the input reads as it did. -/
def objectsPlayUptoRow : OpenClaim := { program := "ytinhnnnehhlceaagreat", sum := "b293e3827a8fe0aa9d5fbabdaf1537e8984bbc5eb6afd19676a098596fd8b753", func := "steadfast/steadfastlaw10.ObjectsPlay", spec := "objectsPlay", unfollowed := true, recurses := true, apart := false, narrowed := true }
def ObjectsPlayUptoSaid : Prop := objectsPlayUptoRow.holds Tryz.pinned (OpenSpec.upto objectsPlaySpec)

end Rows
end Go.Proofs.YtinhnnnehhlceaaGreat
