/-
  No cell of these rows narrows 'for every input' (looked for: loops, veiled, ifaces, maps, wideKeys, modest, calm, conditions, laid).
  DERIVED. THE GIVEN ROWS OF THIS SEAT. 6 by the template 'for every input the law returns true; each argument reads behind the call as it read before'; 0 by the template 'total and deterministic' (their statements: YtdmijjncninlbaaTotals.lean).
  GIVEN WITH THE SEED: the statements are not yours to turn. If you find one false, say at which input.
  Laid BY PROGRAM, IN A SANDBOX (cutbox-rows.mjs): the forced cells as the released guide's own fill.sh prints them over the translation 3687fd4548053198… (all of the seat's roots in one cut). By AI agents, Wed Nov 11 2026. No macro, syntax, notation, axiom, sorry.
-/
import Derived.Test.YtdmijjncninlbaaChecked
import GoSem.Claim
import GoSem.ClaimJoined
import GoSem.ClaimMapViews
import Derived.JoinedTies
import Derived.KernelRfl
namespace Go.Proofs.Ytdmijjncninlbaa
/- THE CELL 'sum', in the pinned program and in every row, IS THE sha256 OF THE DUMP (.gsa) THAT YtdmijjncninlbaaProg.lean LOADS. Nothing in Lean hashes anything: it is a label: what it is worth is what the hold of that sum in a sandbox is worth. -/
noncomputable def Try.pinned : Pinned := { name := "ytdmijjncninlbaa", sum := "3687fd4548053198187f30ce8e14ff98b9d1df391fa164e7719f10838dec21a0", checked := Try.checked }
namespace Rows
def none {H : Type} : Left H := { results := [], args := [] }

/-- 'steadfastlaw08.EntryWords': WHATEVER THE INPUT: true; the input reads as it did. -/
def entryWordsSpec : ChangeSpec := { name := "entryWords", fn := fun _ => fun
  | [d1, d2] => { results := [.lit (.bool true)], args := [d1, d2] }
  | _ => none }
def entryWordsRow : OpenClaim := { program := "ytdmijjncninlbaa", sum := "3687fd4548053198187f30ce8e14ff98b9d1df391fa164e7719f10838dec21a0", func := "steadfast/steadfastlaw08.EntryWords", spec := "entryWords", unfollowed := true, recurses := true, apart := false }
def EntryWordsSaid : Prop := entryWordsRow.holds Try.pinned (OpenSpec.ofChange entryWordsSpec)

/-- ITS FALSE NEIGHBOUR: 'it returns false'. Refute it at one input. -/
def entryWordsWrong : ChangeSpec := { name := "entryWords", fn := fun _ => fun
  | [d1, d2] => { results := [.lit (.bool false)], args := [d1, d2] }
  | _ => none }
def EntryWordsWrongFalsely : Prop := entryWordsRow.holds Try.pinned (OpenSpec.ofChange entryWordsWrong)

/-- 'steadfastlaw08.EntryBack': WHATEVER THE INPUT: true; the input reads as it did. -/
def entryBackSpec : ChangeSpec := { name := "entryBack", fn := fun _ => fun
  | [d1, d2] => { results := [.lit (.bool true)], args := [d1, d2] }
  | _ => none }
def entryBackRow : OpenClaim := { program := "ytdmijjncninlbaa", sum := "3687fd4548053198187f30ce8e14ff98b9d1df391fa164e7719f10838dec21a0", func := "steadfast/steadfastlaw08.EntryBack", spec := "entryBack", unfollowed := true, recurses := true, apart := false }
def EntryBackSaid : Prop := entryBackRow.holds Try.pinned (OpenSpec.ofChange entryBackSpec)

/-- ITS FALSE NEIGHBOUR: 'it returns false'. Refute it at one input. -/
def entryBackWrong : ChangeSpec := { name := "entryBack", fn := fun _ => fun
  | [d1, d2] => { results := [.lit (.bool false)], args := [d1, d2] }
  | _ => none }
def EntryBackWrongFalsely : Prop := entryBackRow.holds Try.pinned (OpenSpec.ofChange entryBackWrong)

/-- 'steadfastlaw08.EntryNames': WHATEVER THE INPUT: true; the input reads as it did. -/
def entryNamesSpec : ChangeSpec := { name := "entryNames", fn := fun _ => fun
  | [d1, d2, d3] => { results := [.lit (.bool true)], args := [d1, d2, d3] }
  | _ => none }
def entryNamesRow : OpenClaim := { program := "ytdmijjncninlbaa", sum := "3687fd4548053198187f30ce8e14ff98b9d1df391fa164e7719f10838dec21a0", func := "steadfast/steadfastlaw08.EntryNames", spec := "entryNames", unfollowed := true, recurses := true, apart := false }
def EntryNamesSaid : Prop := entryNamesRow.holds Try.pinned (OpenSpec.ofChange entryNamesSpec)

/-- ITS FALSE NEIGHBOUR: 'it returns false'. Refute it at one input. -/
def entryNamesWrong : ChangeSpec := { name := "entryNames", fn := fun _ => fun
  | [d1, d2, d3] => { results := [.lit (.bool false)], args := [d1, d2, d3] }
  | _ => none }
def EntryNamesWrongFalsely : Prop := entryNamesRow.holds Try.pinned (OpenSpec.ofChange entryNamesWrong)

/-- 'steadfastlaw08.EntryEnds': WHATEVER THE INPUT: true; the input reads as it did. -/
def entryEndsSpec : ChangeSpec := { name := "entryEnds", fn := fun _ => fun
  | [d] => { results := [.lit (.bool true)], args := [d] }
  | _ => none }
def entryEndsRow : OpenClaim := { program := "ytdmijjncninlbaa", sum := "3687fd4548053198187f30ce8e14ff98b9d1df391fa164e7719f10838dec21a0", func := "steadfast/steadfastlaw08.EntryEnds", spec := "entryEnds", unfollowed := true, recurses := true, apart := false }
def EntryEndsSaid : Prop := entryEndsRow.holds Try.pinned (OpenSpec.ofChange entryEndsSpec)

/-- ITS FALSE NEIGHBOUR: 'it returns false'. Refute it at one input. -/
def entryEndsWrong : ChangeSpec := { name := "entryEnds", fn := fun _ => fun
  | [d] => { results := [.lit (.bool false)], args := [d] }
  | _ => none }
def EntryEndsWrongFalsely : Prop := entryEndsRow.holds Try.pinned (OpenSpec.ofChange entryEndsWrong)

/-- 'steadfastlaw08.EntryStale': WHATEVER THE INPUT: true; the input reads as it did. -/
def entryStaleSpec : ChangeSpec := { name := "entryStale", fn := fun _ => fun
  | [d1, d2, d3] => { results := [.lit (.bool true)], args := [d1, d2, d3] }
  | _ => none }
def entryStaleRow : OpenClaim := { program := "ytdmijjncninlbaa", sum := "3687fd4548053198187f30ce8e14ff98b9d1df391fa164e7719f10838dec21a0", func := "steadfast/steadfastlaw08.EntryStale", spec := "entryStale", unfollowed := true, recurses := true, apart := false }
def EntryStaleSaid : Prop := entryStaleRow.holds Try.pinned (OpenSpec.ofChange entryStaleSpec)

/-- ITS FALSE NEIGHBOUR: 'it returns false'. Refute it at one input. -/
def entryStaleWrong : ChangeSpec := { name := "entryStale", fn := fun _ => fun
  | [d1, d2, d3] => { results := [.lit (.bool false)], args := [d1, d2, d3] }
  | _ => none }
def EntryStaleWrongFalsely : Prop := entryStaleRow.holds Try.pinned (OpenSpec.ofChange entryStaleWrong)

/-- 'steadfastlaw08.EntryVersions': WHATEVER THE INPUT: true; the input reads as it did. -/
def entryVersionsSpec : ChangeSpec := { name := "entryVersions", fn := fun _ => fun
  | [d1, d2] => { results := [.lit (.bool true)], args := [d1, d2] }
  | _ => none }
def entryVersionsRow : OpenClaim := { program := "ytdmijjncninlbaa", sum := "3687fd4548053198187f30ce8e14ff98b9d1df391fa164e7719f10838dec21a0", func := "steadfast/steadfastlaw08.EntryVersions", spec := "entryVersions", unfollowed := true, recurses := true, apart := false }
def EntryVersionsSaid : Prop := entryVersionsRow.holds Try.pinned (OpenSpec.ofChange entryVersionsSpec)

/-- ITS FALSE NEIGHBOUR: 'it returns false'. Refute it at one input. -/
def entryVersionsWrong : ChangeSpec := { name := "entryVersions", fn := fun _ => fun
  | [d1, d2] => { results := [.lit (.bool false)], args := [d1, d2] }
  | _ => none }
def EntryVersionsWrongFalsely : Prop := entryVersionsRow.holds Try.pinned (OpenSpec.ofChange entryVersionsWrong)

/- THE SECOND FORM. 'bulk': how many values and letters a reading holds, each counted each time it is reached (what is shared counts as often as it is met; a slice's spare places count too). A statement '..UptoSaid' is the law's where the arguments, and the package variables that the reading takes, are together of bulk at most 1048576: NARROWER than '..Said'. Prove '..Said' where nothing that the law and all that it calls make is longer than what came in: it says more and counts as full. Else prove '..UptoSaid'. A law counts once. -/
mutual
def uptoBulk {H : Type} : DataW H → Nat
  | .lit (.string bytes) => bytes.length + 1
  | .lit _ => 1
  | .nil => 1
  | .ptr d => uptoBulk d + 1
  | .slice elems spare => uptoBulkAll elems + uptoBulkAll spare + 1
  | .agg parts => uptoBulkAll parts + 1
  | .iface _ d => uptoBulk d + 1
  | .map entries => uptoBulkEntries entries + 1
  | .held _ => 1
def uptoBulkAll {H : Type} : List (DataW H) → Nat
  | [] => 0
  | d :: r => uptoBulk d + uptoBulkAll r
def uptoBulkEntries {H : Type} : List (Lit × DataW H) → Nat
  | [] => 0
  | x :: r => uptoBulkEntry x + uptoBulkEntries r
def uptoBulkEntry {H : Type} : Lit × DataW H → Nat
  | (.string bytes, d) => bytes.length + uptoBulk d + 1
  | (_, d) => uptoBulk d + 1
 end
def uptoSmall : (H : Type) → List (DataW H) → Bool := fun _ ds => decide (uptoBulkAll ds ≤ 1048576)
def OpenSpec.upto (s : _root_.Go.ChangeSpec) : _root_.Go.OpenSpec := { _root_.Go.OpenSpec.ofChange s with cond := some uptoSmall }

/-- 'steadfastlaw08.EntryWords', WHERE WHAT IT READS IS OF BULK AT MOST 1048576: true; the input reads as it did. -/
def entryWordsUptoRow : OpenClaim := { program := "ytdmijjncninlbaa", sum := "3687fd4548053198187f30ce8e14ff98b9d1df391fa164e7719f10838dec21a0", func := "steadfast/steadfastlaw08.EntryWords", spec := "entryWords", unfollowed := true, recurses := true, apart := false, narrowed := true }
def EntryWordsUptoSaid : Prop := entryWordsUptoRow.holds Try.pinned (OpenSpec.upto entryWordsSpec)

/-- 'steadfastlaw08.EntryBack', WHERE WHAT IT READS IS OF BULK AT MOST 1048576: true; the input reads as it did. -/
def entryBackUptoRow : OpenClaim := { program := "ytdmijjncninlbaa", sum := "3687fd4548053198187f30ce8e14ff98b9d1df391fa164e7719f10838dec21a0", func := "steadfast/steadfastlaw08.EntryBack", spec := "entryBack", unfollowed := true, recurses := true, apart := false, narrowed := true }
def EntryBackUptoSaid : Prop := entryBackUptoRow.holds Try.pinned (OpenSpec.upto entryBackSpec)

/-- 'steadfastlaw08.EntryNames', WHERE WHAT IT READS IS OF BULK AT MOST 1048576: true; the input reads as it did. -/
def entryNamesUptoRow : OpenClaim := { program := "ytdmijjncninlbaa", sum := "3687fd4548053198187f30ce8e14ff98b9d1df391fa164e7719f10838dec21a0", func := "steadfast/steadfastlaw08.EntryNames", spec := "entryNames", unfollowed := true, recurses := true, apart := false, narrowed := true }
def EntryNamesUptoSaid : Prop := entryNamesUptoRow.holds Try.pinned (OpenSpec.upto entryNamesSpec)

/-- 'steadfastlaw08.EntryEnds', WHERE WHAT IT READS IS OF BULK AT MOST 1048576: true; the input reads as it did. -/
def entryEndsUptoRow : OpenClaim := { program := "ytdmijjncninlbaa", sum := "3687fd4548053198187f30ce8e14ff98b9d1df391fa164e7719f10838dec21a0", func := "steadfast/steadfastlaw08.EntryEnds", spec := "entryEnds", unfollowed := true, recurses := true, apart := false, narrowed := true }
def EntryEndsUptoSaid : Prop := entryEndsUptoRow.holds Try.pinned (OpenSpec.upto entryEndsSpec)

/-- 'steadfastlaw08.EntryStale', WHERE WHAT IT READS IS OF BULK AT MOST 1048576: true; the input reads as it did. -/
def entryStaleUptoRow : OpenClaim := { program := "ytdmijjncninlbaa", sum := "3687fd4548053198187f30ce8e14ff98b9d1df391fa164e7719f10838dec21a0", func := "steadfast/steadfastlaw08.EntryStale", spec := "entryStale", unfollowed := true, recurses := true, apart := false, narrowed := true }
def EntryStaleUptoSaid : Prop := entryStaleUptoRow.holds Try.pinned (OpenSpec.upto entryStaleSpec)

/-- 'steadfastlaw08.EntryVersions', WHERE WHAT IT READS IS OF BULK AT MOST 1048576: true; the input reads as it did. -/
def entryVersionsUptoRow : OpenClaim := { program := "ytdmijjncninlbaa", sum := "3687fd4548053198187f30ce8e14ff98b9d1df391fa164e7719f10838dec21a0", func := "steadfast/steadfastlaw08.EntryVersions", spec := "entryVersions", unfollowed := true, recurses := true, apart := false, narrowed := true }
def EntryVersionsUptoSaid : Prop := entryVersionsUptoRow.holds Try.pinned (OpenSpec.upto entryVersionsSpec)

end Rows
end Go.Proofs.Ytdmijjncninlbaa
