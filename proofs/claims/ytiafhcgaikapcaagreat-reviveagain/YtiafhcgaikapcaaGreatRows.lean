/-
  No cell of these rows narrows 'for every input' (looked for: loops, veiled, ifaces, maps, wideKeys, modest, calm, conditions, laid).
  DERIVED. THE GIVEN ROWS OF THIS SEAT. 5 by the template 'for every input the law returns true; each argument reads behind the call as it read before'; 0 by the template 'total and deterministic' (their statements: YtiafhcgaikapcaaGreatTotals.lean).
  GIVEN WITH THE SEED: the statements are not yours to turn. If you find one false, say at which input.
  Laid BY PROGRAM, IN A SANDBOX (cutbox-rows.mjs): the forced cells as the released guide's own fill.sh prints them over the translation 9bf822a8573d6e7d… (all of the seat's roots in one cut). By AI agents, Wed Nov 11 2026. No macro, syntax, notation, axiom, sorry.
-/
import Derived.Test.YtiafhcgaikapcaaGreatChecked
import GoSem.Claim
import GoSem.ClaimJoined
import GoSem.ClaimMapViews
import Derived.JoinedTies
import Derived.KernelRfl
namespace Go.Proofs.YtiafhcgaikapcaaGreat
/- THE CELL 'sum', in the pinned program and in every row, IS THE sha256 OF THE DUMP (.gsa) THAT YtiafhcgaikapcaaGreatProg.lean LOADS. Nothing in Lean hashes anything: it is a label: what it is worth is what the hold of that sum in a sandbox is worth. -/
noncomputable def Tryz.pinned : Pinned := { name := "ytiafhcgaikapcaagreat", sum := "9bf822a8573d6e7d5ff302cf69e5c52d12b84cfbba344e80ad60ffd5eada1879", checked := Tryz.checked }
namespace Rows
def none {H : Type} : Left H := { results := [], args := [] }

/-- 'steadfastlaw11.SnapPlays': WHATEVER THE INPUT: true; the input reads as it did. -/
def snapPlaysSpec : ChangeSpec := { name := "snapPlays", fn := fun _ => fun
  | [d1, d2, d3] => { results := [.lit (.bool true)], args := [d1, d2, d3] }
  | _ => none }
def snapPlaysRow : OpenClaim := { program := "ytiafhcgaikapcaagreat", sum := "9bf822a8573d6e7d5ff302cf69e5c52d12b84cfbba344e80ad60ffd5eada1879", func := "steadfast/steadfastlaw11.SnapPlays", spec := "snapPlays", unfollowed := true, recurses := true, apart := false }
def SnapPlaysSaid : Prop := snapPlaysRow.holds Tryz.pinned (OpenSpec.ofChange snapPlaysSpec)

/-- ITS FALSE NEIGHBOUR: 'it returns false'. Refute it at one input. -/
def snapPlaysWrong : ChangeSpec := { name := "snapPlays", fn := fun _ => fun
  | [d1, d2, d3] => { results := [.lit (.bool false)], args := [d1, d2, d3] }
  | _ => none }
def SnapPlaysWrongFalsely : Prop := snapPlaysRow.holds Tryz.pinned (OpenSpec.ofChange snapPlaysWrong)

/-- 'steadfastlaw11.SnapPower': WHATEVER THE INPUT: true; the input reads as it did. -/
def snapPowerSpec : ChangeSpec := { name := "snapPower", fn := fun _ => fun
  | [d1, d2, d3] => { results := [.lit (.bool true)], args := [d1, d2, d3] }
  | _ => none }
def snapPowerRow : OpenClaim := { program := "ytiafhcgaikapcaagreat", sum := "9bf822a8573d6e7d5ff302cf69e5c52d12b84cfbba344e80ad60ffd5eada1879", func := "steadfast/steadfastlaw11.SnapPower", spec := "snapPower", unfollowed := true, recurses := true, apart := false }
def SnapPowerSaid : Prop := snapPowerRow.holds Tryz.pinned (OpenSpec.ofChange snapPowerSpec)

/-- ITS FALSE NEIGHBOUR: 'it returns false'. Refute it at one input. -/
def snapPowerWrong : ChangeSpec := { name := "snapPower", fn := fun _ => fun
  | [d1, d2, d3] => { results := [.lit (.bool false)], args := [d1, d2, d3] }
  | _ => none }
def SnapPowerWrongFalsely : Prop := snapPowerRow.holds Tryz.pinned (OpenSpec.ofChange snapPowerWrong)

/-- 'steadfastlaw12.ReviveFormats': WHATEVER THE INPUT: true; the input reads as it did. -/
def reviveFormatsSpec : ChangeSpec := { name := "reviveFormats", fn := fun _ => fun
  | [d1, d2, d3] => { results := [.lit (.bool true)], args := [d1, d2, d3] }
  | _ => none }
def reviveFormatsRow : OpenClaim := { program := "ytiafhcgaikapcaagreat", sum := "9bf822a8573d6e7d5ff302cf69e5c52d12b84cfbba344e80ad60ffd5eada1879", func := "steadfast/steadfastlaw12.ReviveFormats", spec := "reviveFormats", unfollowed := true, recurses := true, apart := false }
def ReviveFormatsSaid : Prop := reviveFormatsRow.holds Tryz.pinned (OpenSpec.ofChange reviveFormatsSpec)

/-- ITS FALSE NEIGHBOUR: 'it returns false'. Refute it at one input. -/
def reviveFormatsWrong : ChangeSpec := { name := "reviveFormats", fn := fun _ => fun
  | [d1, d2, d3] => { results := [.lit (.bool false)], args := [d1, d2, d3] }
  | _ => none }
def ReviveFormatsWrongFalsely : Prop := reviveFormatsRow.holds Tryz.pinned (OpenSpec.ofChange reviveFormatsWrong)

/-- 'steadfastlaw12.ReviveAny': WHATEVER THE INPUT: true; the input reads as it did. -/
def reviveAnySpec : ChangeSpec := { name := "reviveAny", fn := fun _ => fun
  | [d] => { results := [.lit (.bool true)], args := [d] }
  | _ => none }
def reviveAnyRow : OpenClaim := { program := "ytiafhcgaikapcaagreat", sum := "9bf822a8573d6e7d5ff302cf69e5c52d12b84cfbba344e80ad60ffd5eada1879", func := "steadfast/steadfastlaw12.ReviveAny", spec := "reviveAny", unfollowed := true, recurses := true, apart := false }
def ReviveAnySaid : Prop := reviveAnyRow.holds Tryz.pinned (OpenSpec.ofChange reviveAnySpec)

/-- ITS FALSE NEIGHBOUR: 'it returns false'. Refute it at one input. -/
def reviveAnyWrong : ChangeSpec := { name := "reviveAny", fn := fun _ => fun
  | [d] => { results := [.lit (.bool false)], args := [d] }
  | _ => none }
def ReviveAnyWrongFalsely : Prop := reviveAnyRow.holds Tryz.pinned (OpenSpec.ofChange reviveAnyWrong)

/-- 'steadfastlaw12.ReviveAgain': WHATEVER THE INPUT: true; the input reads as it did. -/
def reviveAgainSpec : ChangeSpec := { name := "reviveAgain", fn := fun _ => fun
  | [d1, d2, d3] => { results := [.lit (.bool true)], args := [d1, d2, d3] }
  | _ => none }
def reviveAgainRow : OpenClaim := { program := "ytiafhcgaikapcaagreat", sum := "9bf822a8573d6e7d5ff302cf69e5c52d12b84cfbba344e80ad60ffd5eada1879", func := "steadfast/steadfastlaw12.ReviveAgain", spec := "reviveAgain", unfollowed := true, recurses := true, apart := false }
def ReviveAgainSaid : Prop := reviveAgainRow.holds Tryz.pinned (OpenSpec.ofChange reviveAgainSpec)

/-- ITS FALSE NEIGHBOUR: 'it returns false'. Refute it at one input. -/
def reviveAgainWrong : ChangeSpec := { name := "reviveAgain", fn := fun _ => fun
  | [d1, d2, d3] => { results := [.lit (.bool false)], args := [d1, d2, d3] }
  | _ => none }
def ReviveAgainWrongFalsely : Prop := reviveAgainRow.holds Tryz.pinned (OpenSpec.ofChange reviveAgainWrong)

/- THE SECOND FORM. 'bulk': how many values and letters a reading holds, each counted each time it is reached (what is shared counts as often as it is met; a slice's spare places count too). A statement '..UptoSaid' is the law's where the arguments, and the package variables that the reading takes, are together of bulk at most 1048576: NARROWER than '..Said'. Prove '..Said' where nothing that the law and all that it calls make is longer than what came in: it says more and counts as full. Else prove '..UptoSaid'. A law counts once. -/
mutual
def uptoBulk {H : Type} : DataW H → Nat
  | .lit (.string bytes) => bytes.length + 1
  | .lit _ => 1
  | .nil => 1
  | .ptr d => uptoBulk d + 1
  | .slice elems spare => uptoBulkAll elems + uptoBulkAll spare + 1
  | .agg parts => uptoBulkAll parts + 1
  | .iface _ d => uptoBulk d + 1
  | .map entries => uptoBulkEntries entries + 1
  | .held _ => 1
def uptoBulkAll {H : Type} : List (DataW H) → Nat
  | [] => 0
  | d :: r => uptoBulk d + uptoBulkAll r
def uptoBulkEntries {H : Type} : List (Lit × DataW H) → Nat
  | [] => 0
  | x :: r => uptoBulkEntry x + uptoBulkEntries r
def uptoBulkEntry {H : Type} : Lit × DataW H → Nat
  | (.string bytes, d) => bytes.length + uptoBulk d + 1
  | (_, d) => uptoBulk d + 1
 end
def uptoSmall : (H : Type) → List (DataW H) → Bool := fun _ ds => decide (uptoBulkAll ds ≤ 1048576)
def OpenSpec.upto (s : _root_.Go.ChangeSpec) : _root_.Go.OpenSpec := { _root_.Go.OpenSpec.ofChange s with cond := some uptoSmall }

/-- 'steadfastlaw11.SnapPlays', WHERE WHAT IT READS IS OF BULK AT MOST 1048576: true; the input reads as it did. -/
def snapPlaysUptoRow : OpenClaim := { program := "ytiafhcgaikapcaagreat", sum := "9bf822a8573d6e7d5ff302cf69e5c52d12b84cfbba344e80ad60ffd5eada1879", func := "steadfast/steadfastlaw11.SnapPlays", spec := "snapPlays", unfollowed := true, recurses := true, apart := false, narrowed := true }
def SnapPlaysUptoSaid : Prop := snapPlaysUptoRow.holds Tryz.pinned (OpenSpec.upto snapPlaysSpec)

/-- 'steadfastlaw11.SnapPower', WHERE WHAT IT READS IS OF BULK AT MOST 1048576: true; the input reads as it did. -/
def snapPowerUptoRow : OpenClaim := { program := "ytiafhcgaikapcaagreat", sum := "9bf822a8573d6e7d5ff302cf69e5c52d12b84cfbba344e80ad60ffd5eada1879", func := "steadfast/steadfastlaw11.SnapPower", spec := "snapPower", unfollowed := true, recurses := true, apart := false, narrowed := true }
def SnapPowerUptoSaid : Prop := snapPowerUptoRow.holds Tryz.pinned (OpenSpec.upto snapPowerSpec)

/-- 'steadfastlaw12.ReviveFormats', WHERE WHAT IT READS IS OF BULK AT MOST 1048576: true; the input reads as it did. -/
def reviveFormatsUptoRow : OpenClaim := { program := "ytiafhcgaikapcaagreat", sum := "9bf822a8573d6e7d5ff302cf69e5c52d12b84cfbba344e80ad60ffd5eada1879", func := "steadfast/steadfastlaw12.ReviveFormats", spec := "reviveFormats", unfollowed := true, recurses := true, apart := false, narrowed := true }
def ReviveFormatsUptoSaid : Prop := reviveFormatsUptoRow.holds Tryz.pinned (OpenSpec.upto reviveFormatsSpec)

/-- 'steadfastlaw12.ReviveAny', WHERE WHAT IT READS IS OF BULK AT MOST 1048576: true; the input reads as it did. -/
def reviveAnyUptoRow : OpenClaim := { program := "ytiafhcgaikapcaagreat", sum := "9bf822a8573d6e7d5ff302cf69e5c52d12b84cfbba344e80ad60ffd5eada1879", func := "steadfast/steadfastlaw12.ReviveAny", spec := "reviveAny", unfollowed := true, recurses := true, apart := false, narrowed := true }
def ReviveAnyUptoSaid : Prop := reviveAnyUptoRow.holds Tryz.pinned (OpenSpec.upto reviveAnySpec)

/-- 'steadfastlaw12.ReviveAgain', WHERE WHAT IT READS IS OF BULK AT MOST 1048576: true; the input reads as it did. -/
def reviveAgainUptoRow : OpenClaim := { program := "ytiafhcgaikapcaagreat", sum := "9bf822a8573d6e7d5ff302cf69e5c52d12b84cfbba344e80ad60ffd5eada1879", func := "steadfast/steadfastlaw12.ReviveAgain", spec := "reviveAgain", unfollowed := true, recurses := true, apart := false, narrowed := true }
def ReviveAgainUptoSaid : Prop := reviveAgainUptoRow.holds Tryz.pinned (OpenSpec.upto reviveAgainSpec)

end Rows
end Go.Proofs.YtiafhcgaikapcaaGreat
