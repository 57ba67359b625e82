/-
  No cell of these rows narrows 'for every input' (looked for: loops, veiled, ifaces, maps, wideKeys, modest, calm, conditions, laid).
  DERIVED. THE GIVEN ROWS OF THIS SEAT. 6 by the template 'for every input the law returns true; each argument reads behind the call as it read before'; 0 by the template 'total and deterministic' (their statements: YtkoaajcfnnpiaaaTotals.lean).
  GIVEN WITH THE SEED: the statements are not yours to turn. If you find one false, say at which input.
  Laid BY PROGRAM, IN A SANDBOX (cutbox-rows.mjs): the forced cells as the released guide's own fill.sh prints them over the translation 681af51126a1d6ee… (all of the seat's roots in one cut). By AI agents, Wed Nov 11 2026. No macro, syntax, notation, axiom, sorry.
-/
import Derived.Test.YtkoaajcfnnpiaaaChecked
import GoSem.Claim
import GoSem.ClaimJoined
import GoSem.ClaimMapViews
import Derived.JoinedTies
import Derived.KernelRfl
namespace Go.Proofs.Ytkoaajcfnnpiaaa
/- THE CELL 'sum', in the pinned program and in every row, IS THE sha256 OF THE DUMP (.gsa) THAT YtkoaajcfnnpiaaaProg.lean LOADS. Nothing in Lean hashes anything: it is a label: what it is worth is what the hold of that sum in a sandbox is worth. -/
noncomputable def Try.pinned : Pinned := { name := "ytkoaajcfnnpiaaa", sum := "681af51126a1d6eeb6ebe06c14cbc8df42dee59ba2ad2c0d6b131db1dd7ba570", checked := Try.checked }
namespace Rows
def none {H : Type} : Left H := { results := [], args := [] }

/-- 'steadfastlaw03.NvmPlays': WHATEVER THE INPUT: true; the input reads as it did. -/
def nvmPlaysSpec : ChangeSpec := { name := "nvmPlays", fn := fun _ => fun
  | [d1, d2] => { results := [.lit (.bool true)], args := [d1, d2] }
  | _ => none }
def nvmPlaysRow : OpenClaim := { program := "ytkoaajcfnnpiaaa", sum := "681af51126a1d6eeb6ebe06c14cbc8df42dee59ba2ad2c0d6b131db1dd7ba570", func := "steadfast/steadfastlaw03.NvmPlays", spec := "nvmPlays", unfollowed := true, recurses := true, apart := false }
def NvmPlaysSaid : Prop := nvmPlaysRow.holds Try.pinned (OpenSpec.ofChange nvmPlaysSpec)

/-- ITS FALSE NEIGHBOUR: 'it returns false'. Refute it at one input. -/
def nvmPlaysWrong : ChangeSpec := { name := "nvmPlays", fn := fun _ => fun
  | [d1, d2] => { results := [.lit (.bool false)], args := [d1, d2] }
  | _ => none }
def NvmPlaysWrongFalsely : Prop := nvmPlaysRow.holds Try.pinned (OpenSpec.ofChange nvmPlaysWrong)

/-- 'steadfastlaw04.FramesPlay': WHATEVER THE INPUT: true; the input reads as it did. -/
def framesPlaySpec : ChangeSpec := { name := "framesPlay", fn := fun _ => fun
  | [d1, d2, d3] => { results := [.lit (.bool true)], args := [d1, d2, d3] }
  | _ => none }
def framesPlayRow : OpenClaim := { program := "ytkoaajcfnnpiaaa", sum := "681af51126a1d6eeb6ebe06c14cbc8df42dee59ba2ad2c0d6b131db1dd7ba570", func := "steadfast/steadfastlaw04.FramesPlay", spec := "framesPlay", apart := false }
def FramesPlaySaid : Prop := framesPlayRow.holds Try.pinned (OpenSpec.ofChange framesPlaySpec)

/-- ITS FALSE NEIGHBOUR: 'it returns false'. Refute it at one input. -/
def framesPlayWrong : ChangeSpec := { name := "framesPlay", fn := fun _ => fun
  | [d1, d2, d3] => { results := [.lit (.bool false)], args := [d1, d2, d3] }
  | _ => none }
def FramesPlayWrongFalsely : Prop := framesPlayRow.holds Try.pinned (OpenSpec.ofChange framesPlayWrong)

/-- 'steadfastlaw04.FramesOnce': WHATEVER THE INPUT: true; the input reads as it did. -/
def framesOnceSpec : ChangeSpec := { name := "framesOnce", fn := fun _ => fun
  | [d] => { results := [.lit (.bool true)], args := [d] }
  | _ => none }
def framesOnceRow : OpenClaim := { program := "ytkoaajcfnnpiaaa", sum := "681af51126a1d6eeb6ebe06c14cbc8df42dee59ba2ad2c0d6b131db1dd7ba570", func := "steadfast/steadfastlaw04.FramesOnce", spec := "framesOnce", apart := false }
def FramesOnceSaid : Prop := framesOnceRow.holds Try.pinned (OpenSpec.ofChange framesOnceSpec)

/-- ITS FALSE NEIGHBOUR: 'it returns false'. Refute it at one input. -/
def framesOnceWrong : ChangeSpec := { name := "framesOnce", fn := fun _ => fun
  | [d] => { results := [.lit (.bool false)], args := [d] }
  | _ => none }
def FramesOnceWrongFalsely : Prop := framesOnceRow.holds Try.pinned (OpenSpec.ofChange framesOnceWrong)

/-- 'steadfastlaw04.FramesLeft': WHATEVER THE INPUT: true; the input reads as it did. -/
def framesLeftSpec : ChangeSpec := { name := "framesLeft", fn := fun _ => fun
  | [d1, d2] => { results := [.lit (.bool true)], args := [d1, d2] }
  | _ => none }
def framesLeftRow : OpenClaim := { program := "ytkoaajcfnnpiaaa", sum := "681af51126a1d6eeb6ebe06c14cbc8df42dee59ba2ad2c0d6b131db1dd7ba570", func := "steadfast/steadfastlaw04.FramesLeft", spec := "framesLeft", apart := false }
def FramesLeftSaid : Prop := framesLeftRow.holds Try.pinned (OpenSpec.ofChange framesLeftSpec)

/-- ITS FALSE NEIGHBOUR: 'it returns false'. Refute it at one input. -/
def framesLeftWrong : ChangeSpec := { name := "framesLeft", fn := fun _ => fun
  | [d1, d2] => { results := [.lit (.bool false)], args := [d1, d2] }
  | _ => none }
def FramesLeftWrongFalsely : Prop := framesLeftRow.holds Try.pinned (OpenSpec.ofChange framesLeftWrong)

/-- 'steadfastlaw04.FramesFirst': WHATEVER THE INPUT: true; the input reads as it did. -/
def framesFirstSpec : ChangeSpec := { name := "framesFirst", fn := fun _ => fun
  | [d] => { results := [.lit (.bool true)], args := [d] }
  | _ => none }
def framesFirstRow : OpenClaim := { program := "ytkoaajcfnnpiaaa", sum := "681af51126a1d6eeb6ebe06c14cbc8df42dee59ba2ad2c0d6b131db1dd7ba570", func := "steadfast/steadfastlaw04.FramesFirst", spec := "framesFirst", apart := false }
def FramesFirstSaid : Prop := framesFirstRow.holds Try.pinned (OpenSpec.ofChange framesFirstSpec)

/-- ITS FALSE NEIGHBOUR: 'it returns false'. Refute it at one input. -/
def framesFirstWrong : ChangeSpec := { name := "framesFirst", fn := fun _ => fun
  | [d] => { results := [.lit (.bool false)], args := [d] }
  | _ => none }
def FramesFirstWrongFalsely : Prop := framesFirstRow.holds Try.pinned (OpenSpec.ofChange framesFirstWrong)

/-- 'steadfastlaw04.FramesSettled': WHATEVER THE INPUT: true; the input reads as it did. -/
def framesSettledSpec : ChangeSpec := { name := "framesSettled", fn := fun _ => fun
  | [d] => { results := [.lit (.bool true)], args := [d] }
  | _ => none }
def framesSettledRow : OpenClaim := { program := "ytkoaajcfnnpiaaa", sum := "681af51126a1d6eeb6ebe06c14cbc8df42dee59ba2ad2c0d6b131db1dd7ba570", func := "steadfast/steadfastlaw04.FramesSettled", spec := "framesSettled", apart := false }
def FramesSettledSaid : Prop := framesSettledRow.holds Try.pinned (OpenSpec.ofChange framesSettledSpec)

/-- ITS FALSE NEIGHBOUR: 'it returns false'. Refute it at one input. -/
def framesSettledWrong : ChangeSpec := { name := "framesSettled", fn := fun _ => fun
  | [d] => { results := [.lit (.bool false)], args := [d] }
  | _ => none }
def FramesSettledWrongFalsely : Prop := framesSettledRow.holds Try.pinned (OpenSpec.ofChange framesSettledWrong)

/- THE SECOND FORM. 'bulk': how many values and letters a reading holds, each counted each time it is reached (what is shared counts as often as it is met; a slice's spare places count too). A statement '..UptoSaid' is the law's where the arguments, and the package variables that the reading takes, are together of bulk at most 1048576: NARROWER than '..Said'. Prove '..Said' where nothing that the law and all that it calls make is longer than what came in: it says more and counts as full. Else prove '..UptoSaid'. A law counts once. -/
mutual
def uptoBulk {H : Type} : DataW H → Nat
  | .lit (.string bytes) => bytes.length + 1
  | .lit _ => 1
  | .nil => 1
  | .ptr d => uptoBulk d + 1
  | .slice elems spare => uptoBulkAll elems + uptoBulkAll spare + 1
  | .agg parts => uptoBulkAll parts + 1
  | .iface _ d => uptoBulk d + 1
  | .map entries => uptoBulkEntries entries + 1
  | .held _ => 1
def uptoBulkAll {H : Type} : List (DataW H) → Nat
  | [] => 0
  | d :: r => uptoBulk d + uptoBulkAll r
def uptoBulkEntries {H : Type} : List (Lit × DataW H) → Nat
  | [] => 0
  | x :: r => uptoBulkEntry x + uptoBulkEntries r
def uptoBulkEntry {H : Type} : Lit × DataW H → Nat
  | (.string bytes, d) => bytes.length + uptoBulk d + 1
  | (_, d) => uptoBulk d + 1
 end
def uptoSmall : (H : Type) → List (DataW H) → Bool := fun _ ds => decide (uptoBulkAll ds ≤ 1048576)
def OpenSpec.upto (s : _root_.Go.ChangeSpec) : _root_.Go.OpenSpec := { _root_.Go.OpenSpec.ofChange s with cond := some uptoSmall }

/-- 'steadfastlaw03.NvmPlays', WHERE WHAT IT READS IS OF BULK AT MOST 1048576: true; the input reads as it did. -/
def nvmPlaysUptoRow : OpenClaim := { program := "ytkoaajcfnnpiaaa", sum := "681af51126a1d6eeb6ebe06c14cbc8df42dee59ba2ad2c0d6b131db1dd7ba570", func := "steadfast/steadfastlaw03.NvmPlays", spec := "nvmPlays", unfollowed := true, recurses := true, apart := false, narrowed := true }
def NvmPlaysUptoSaid : Prop := nvmPlaysUptoRow.holds Try.pinned (OpenSpec.upto nvmPlaysSpec)

/-- 'steadfastlaw04.FramesPlay', WHERE WHAT IT READS IS OF BULK AT MOST 1048576: true; the input reads as it did. -/
def framesPlayUptoRow : OpenClaim := { program := "ytkoaajcfnnpiaaa", sum := "681af51126a1d6eeb6ebe06c14cbc8df42dee59ba2ad2c0d6b131db1dd7ba570", func := "steadfast/steadfastlaw04.FramesPlay", spec := "framesPlay", apart := false, narrowed := true }
def FramesPlayUptoSaid : Prop := framesPlayUptoRow.holds Try.pinned (OpenSpec.upto framesPlaySpec)

/-- 'steadfastlaw04.FramesOnce', WHERE WHAT IT READS IS OF BULK AT MOST 1048576: true; the input reads as it did. -/
def framesOnceUptoRow : OpenClaim := { program := "ytkoaajcfnnpiaaa", sum := "681af51126a1d6eeb6ebe06c14cbc8df42dee59ba2ad2c0d6b131db1dd7ba570", func := "steadfast/steadfastlaw04.FramesOnce", spec := "framesOnce", apart := false, narrowed := true }
def FramesOnceUptoSaid : Prop := framesOnceUptoRow.holds Try.pinned (OpenSpec.upto framesOnceSpec)

/-- 'steadfastlaw04.FramesLeft', WHERE WHAT IT READS IS OF BULK AT MOST 1048576: true; the input reads as it did. -/
def framesLeftUptoRow : OpenClaim := { program := "ytkoaajcfnnpiaaa", sum := "681af51126a1d6eeb6ebe06c14cbc8df42dee59ba2ad2c0d6b131db1dd7ba570", func := "steadfast/steadfastlaw04.FramesLeft", spec := "framesLeft", apart := false, narrowed := true }
def FramesLeftUptoSaid : Prop := framesLeftUptoRow.holds Try.pinned (OpenSpec.upto framesLeftSpec)

/-- 'steadfastlaw04.FramesFirst', WHERE WHAT IT READS IS OF BULK AT MOST 1048576: true; the input reads as it did. -/
def framesFirstUptoRow : OpenClaim := { program := "ytkoaajcfnnpiaaa", sum := "681af51126a1d6eeb6ebe06c14cbc8df42dee59ba2ad2c0d6b131db1dd7ba570", func := "steadfast/steadfastlaw04.FramesFirst", spec := "framesFirst", apart := false, narrowed := true }
def FramesFirstUptoSaid : Prop := framesFirstUptoRow.holds Try.pinned (OpenSpec.upto framesFirstSpec)

/-- 'steadfastlaw04.FramesSettled', WHERE WHAT IT READS IS OF BULK AT MOST 1048576: true; the input reads as it did. -/
def framesSettledUptoRow : OpenClaim := { program := "ytkoaajcfnnpiaaa", sum := "681af51126a1d6eeb6ebe06c14cbc8df42dee59ba2ad2c0d6b131db1dd7ba570", func := "steadfast/steadfastlaw04.FramesSettled", spec := "framesSettled", apart := false, narrowed := true }
def FramesSettledUptoSaid : Prop := framesSettledUptoRow.holds Try.pinned (OpenSpec.upto framesSettledSpec)

end Rows
end Go.Proofs.Ytkoaajcfnnpiaaa
