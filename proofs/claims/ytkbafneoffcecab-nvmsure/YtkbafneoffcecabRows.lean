/-
  No cell of these rows narrows 'for every input' (looked for: loops, veiled, ifaces, maps, wideKeys, modest, calm, conditions, laid).
  DERIVED. THE GIVEN ROWS OF THIS SEAT. 3 by the template 'for every input the law returns true; each argument reads behind the call as it read before'; 0 by the template 'total and deterministic' (their statements: YtkbafneoffcecabTotals.lean).
  GIVEN WITH THE SEED: the statements are not yours to turn. If you find one false, say at which input.
  Laid BY PROGRAM, IN A SANDBOX (cutbox-rows.mjs): the forced cells as the released guide's own fill.sh prints them over the translation 330ddcd150ea13e1… (all of the seat's roots in one cut). By AI agents, Wed Nov 11 2026. No macro, syntax, notation, axiom, sorry.
-/
import Derived.Test.YtkbafneoffcecabChecked
import GoSem.Claim
import GoSem.ClaimJoined
import GoSem.ClaimMapViews
import Derived.JoinedTies
import Derived.KernelRfl
namespace Go.Proofs.Ytkbafneoffcecab
/- THE CELL 'sum', in the pinned program and in every row, IS THE sha256 OF THE DUMP (.gsa) THAT YtkbafneoffcecabProg.lean LOADS. Nothing in Lean hashes anything: it is a label: what it is worth is what the hold of that sum in a sandbox is worth. -/
noncomputable def Try.pinned : Pinned := { name := "ytkbafneoffcecab", sum := "330ddcd150ea13e10b6165c103ddd7f3d04fe4cda22b41bec1fff733ec23fe6e", checked := Try.checked }
namespace Rows
def none {H : Type} : Left H := { results := [], args := [] }

/-- 'steadfastlaw03.NvmCores': WHATEVER THE INPUT: true; the input reads as it did. -/
def nvmCoresSpec : ChangeSpec := { name := "nvmCores", fn := fun _ => fun
  | [d1, d2, d3] => { results := [.lit (.bool true)], args := [d1, d2, d3] }
  | _ => none }
def nvmCoresRow : OpenClaim := { program := "ytkbafneoffcecab", sum := "330ddcd150ea13e10b6165c103ddd7f3d04fe4cda22b41bec1fff733ec23fe6e", func := "steadfast/steadfastlaw03.NvmCores", spec := "nvmCores", unfollowed := true, recurses := true, apart := false }
def NvmCoresSaid : Prop := nvmCoresRow.holds Try.pinned (OpenSpec.ofChange nvmCoresSpec)

/-- ITS FALSE NEIGHBOUR: 'it returns false'. Refute it at one input. -/
def nvmCoresWrong : ChangeSpec := { name := "nvmCores", fn := fun _ => fun
  | [d1, d2, d3] => { results := [.lit (.bool false)], args := [d1, d2, d3] }
  | _ => none }
def NvmCoresWrongFalsely : Prop := nvmCoresRow.holds Try.pinned (OpenSpec.ofChange nvmCoresWrong)

/-- 'steadfastlaw03.NvmApart': WHATEVER THE INPUT: true; the input reads as it did. -/
def nvmApartSpec : ChangeSpec := { name := "nvmApart", fn := fun _ => fun
  | [d1, d2] => { results := [.lit (.bool true)], args := [d1, d2] }
  | _ => none }
def nvmApartRow : OpenClaim := { program := "ytkbafneoffcecab", sum := "330ddcd150ea13e10b6165c103ddd7f3d04fe4cda22b41bec1fff733ec23fe6e", func := "steadfast/steadfastlaw03.NvmApart", spec := "nvmApart", unfollowed := true, recurses := true, apart := false }
def NvmApartSaid : Prop := nvmApartRow.holds Try.pinned (OpenSpec.ofChange nvmApartSpec)

/-- ITS FALSE NEIGHBOUR: 'it returns false'. Refute it at one input. -/
def nvmApartWrong : ChangeSpec := { name := "nvmApart", fn := fun _ => fun
  | [d1, d2] => { results := [.lit (.bool false)], args := [d1, d2] }
  | _ => none }
def NvmApartWrongFalsely : Prop := nvmApartRow.holds Try.pinned (OpenSpec.ofChange nvmApartWrong)

/-- 'steadfastlaw03.NvmSure': WHATEVER THE INPUT: true; the input reads as it did. -/
def nvmSureSpec : ChangeSpec := { name := "nvmSure", fn := fun _ => fun
  | [d1, d2] => { results := [.lit (.bool true)], args := [d1, d2] }
  | _ => none }
def nvmSureRow : OpenClaim := { program := "ytkbafneoffcecab", sum := "330ddcd150ea13e10b6165c103ddd7f3d04fe4cda22b41bec1fff733ec23fe6e", func := "steadfast/steadfastlaw03.NvmSure", spec := "nvmSure", unfollowed := true, recurses := true, apart := false }
def NvmSureSaid : Prop := nvmSureRow.holds Try.pinned (OpenSpec.ofChange nvmSureSpec)

/-- ITS FALSE NEIGHBOUR: 'it returns false'. Refute it at one input. -/
def nvmSureWrong : ChangeSpec := { name := "nvmSure", fn := fun _ => fun
  | [d1, d2] => { results := [.lit (.bool false)], args := [d1, d2] }
  | _ => none }
def NvmSureWrongFalsely : Prop := nvmSureRow.holds Try.pinned (OpenSpec.ofChange nvmSureWrong)

/- THE SECOND FORM. 'bulk': how many values and letters a reading holds, each counted each time it is reached (what is shared counts as often as it is met; a slice's spare places count too). A statement '..UptoSaid' is the law's where the arguments, and the package variables that the reading takes, are together of bulk at most 1048576: NARROWER than '..Said'. Prove '..Said' where nothing that the law and all that it calls make is longer than what came in: it says more and counts as full. Else prove '..UptoSaid'. A law counts once. -/
mutual
def uptoBulk {H : Type} : DataW H → Nat
  | .lit (.string bytes) => bytes.length + 1
  | .lit _ => 1
  | .nil => 1
  | .ptr d => uptoBulk d + 1
  | .slice elems spare => uptoBulkAll elems + uptoBulkAll spare + 1
  | .agg parts => uptoBulkAll parts + 1
  | .iface _ d => uptoBulk d + 1
  | .map entries => uptoBulkEntries entries + 1
  | .held _ => 1
def uptoBulkAll {H : Type} : List (DataW H) → Nat
  | [] => 0
  | d :: r => uptoBulk d + uptoBulkAll r
def uptoBulkEntries {H : Type} : List (Lit × DataW H) → Nat
  | [] => 0
  | x :: r => uptoBulkEntry x + uptoBulkEntries r
def uptoBulkEntry {H : Type} : Lit × DataW H → Nat
  | (.string bytes, d) => bytes.length + uptoBulk d + 1
  | (_, d) => uptoBulk d + 1
 end
def uptoSmall : (H : Type) → List (DataW H) → Bool := fun _ ds => decide (uptoBulkAll ds ≤ 1048576)
def OpenSpec.upto (s : _root_.Go.ChangeSpec) : _root_.Go.OpenSpec := { _root_.Go.OpenSpec.ofChange s with cond := some uptoSmall }

/-- 'steadfastlaw03.NvmCores', WHERE WHAT IT READS IS OF BULK AT MOST 1048576: true; the input reads as it did. -/
def nvmCoresUptoRow : OpenClaim := { program := "ytkbafneoffcecab", sum := "330ddcd150ea13e10b6165c103ddd7f3d04fe4cda22b41bec1fff733ec23fe6e", func := "steadfast/steadfastlaw03.NvmCores", spec := "nvmCores", unfollowed := true, recurses := true, apart := false, narrowed := true }
def NvmCoresUptoSaid : Prop := nvmCoresUptoRow.holds Try.pinned (OpenSpec.upto nvmCoresSpec)

/-- 'steadfastlaw03.NvmApart', WHERE WHAT IT READS IS OF BULK AT MOST 1048576: true; the input reads as it did. -/
def nvmApartUptoRow : OpenClaim := { program := "ytkbafneoffcecab", sum := "330ddcd150ea13e10b6165c103ddd7f3d04fe4cda22b41bec1fff733ec23fe6e", func := "steadfast/steadfastlaw03.NvmApart", spec := "nvmApart", unfollowed := true, recurses := true, apart := false, narrowed := true }
def NvmApartUptoSaid : Prop := nvmApartUptoRow.holds Try.pinned (OpenSpec.upto nvmApartSpec)

/-- 'steadfastlaw03.NvmSure', WHERE WHAT IT READS IS OF BULK AT MOST 1048576: true; the input reads as it did. -/
def nvmSureUptoRow : OpenClaim := { program := "ytkbafneoffcecab", sum := "330ddcd150ea13e10b6165c103ddd7f3d04fe4cda22b41bec1fff733ec23fe6e", func := "steadfast/steadfastlaw03.NvmSure", spec := "nvmSure", unfollowed := true, recurses := true, apart := false, narrowed := true }
def NvmSureUptoSaid : Prop := nvmSureUptoRow.holds Try.pinned (OpenSpec.upto nvmSureSpec)

end Rows
end Go.Proofs.Ytkbafneoffcecab
