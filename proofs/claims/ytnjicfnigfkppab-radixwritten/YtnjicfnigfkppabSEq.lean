
/-
  '==' and '!=' on superblocks and lines.
-/
import Derived.Test.YtnjicfnigfkppabEqS
namespace Go.Proofs.Ytnjicfnigfkppab
open Go.ChangeShapes Go.WideShapes Go.ChangeAt Go.RowKit Go.Joins
set_option maxRecDepth 10000

theorem line_guard2 : Try.prog.eqGuardType Try.prog.depth 32 = false := by kernel_rfl
theorem equal_line (s t : List Int) (hs : s.length = 8) (ht : t.length = 8) (w : World) : (Op.equalIn 10000 32 (.agg (iv .u64 s)) (.agg (iv .u64 t))).run Try.prog w = .ok (decide (s = t)) w :=
  run_equalIn_ints w 9998 32 30 .u64 8 Try.underlying32 Try.underlying30 (by kernel_rfl) _ _ hs ht

end Go.Proofs.Ytnjicfnigfkppab
