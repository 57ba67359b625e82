
/-
  Package word's functions: what each call returns, in any world, for all integers that fit; the world stays as it is.
-/
import Derived.Test.YtiafhcgaikapcaaGreatRows
import Derived.Test.YtiafhcgaikapcaaGreatWMath
import Derived.WalkKit
import Derived.WalkLawsBesides
import Derived.ProofKit
import Derived.OpenShut
namespace Go.Proofs.YtiafhcgaikapcaaGreat
open Go.ChangeShapes Go.WideShapes Go.ChangeAt Go.RowKit
set_option maxRecDepth 10000
set_option linter.unusedVariables false

theorem ret_int {k : IntKind} {a b : Int} (h : a = b) : Ending.returned (.int k a) = .returned (.int k b) := by rw [h]
theorem ret_bool {a b : Bool} (h : a = b) : Ending.returned (.bool a) = .returned (.bool b) := by rw [h]
theorem ret_two {k : IntKind} {a b : Int} {v : Value} (h : a = b) : Ending.returned (.tuple #[.int k a, v]) = .returned (.tuple #[.int k b, v]) := by rw [h]

theorem wf_i64 {n : Int} (h0 : -9223372036854775808 ≤ n) (h1 : n ≤ 9223372036854775807) : (Lit.int .i64 n).wf = true := by
  simp [Lit.wf, IntKind.min, IntKind.max, IntKind.signed, IntKind.bits]; omega

theorem lowest_any (b : Int) (h1 : 1 ≤ b) (h2 : b ≤ 64) (w : World) :
    Calls Tryz.prog 226 #[.int .i64 b] w fun e w' => e = .returned (.int .u64 (lowI b)) ∧ w' = w := by
  go_enter Tryz.func226, Tryz.ntmps226
  go_wp2
  go_ret
  exact ⟨ret_int (low_eq b h1 h2), rfl⟩

theorem isField_any (a b : Int) (w0 : (Lit.int .i64 a).wf = true) (w1 : (Lit.int .i64 b).wf = true) (w : World) :
    Calls Tryz.prog 225 #[.int .i64 a, .int .i64 b] w fun e w' => e = .returned (.bool (isF a b)) ∧ w' = w := by
  go_enter Tryz.func225, Tryz.ntmps225
  go_wp2
  all_goals go_ret
  all_goals refine ⟨ret_bool ?_, rfl⟩
  all_goals unfold isF
  · refine decide_eq_decide.2 ?_; omega
  all_goals (symm; rw [decide_eq_false_iff_not]; omega)

theorem field_no (w a b : Int) (wa : (Lit.int .i64 a).wf = true) (wb : (Lit.int .i64 b).wf = true) (h : isF a b = false) (W : World) :
    Calls Tryz.prog 223 #[.int .u64 w, .int .i64 a, .int .i64 b] W fun e w' => e = .returned (.int .u64 0) ∧ w' = W := by
  go_enter Tryz.func223, Tryz.ntmps223
  go_wp2_with (go_at_call 225; refine (isField_any _ _ wa wb _).mono ?_; rintro e w' ⟨rfl, rfl⟩)
  go_ret
  exact ⟨rfl, rfl⟩

theorem field_yes (w a b : Int) (h0 : 0 ≤ w) (h1 : w ≤ 18446744073709551615) (wa : (Lit.int .i64 a).wf = true) (wb : (Lit.int .i64 b).wf = true) (h : isF a b = true) (W : World) :
    Calls Tryz.prog 223 #[.int .u64 w, .int .i64 a, .int .i64 b] W fun e w' => e = .returned (.int .u64 (fieldI w a b)) ∧ w' = W := by
  obtain ⟨a0, b0, b1, ab⟩ := isF_true h
  have a1 : a ≤ 63 := by omega
  go_enter Tryz.func223, Tryz.ntmps223
  go_wp2_with (first | (go_at_call 225; refine (isField_any _ _ wa wb _).mono ?_; rintro e w' ⟨rfl, rfl⟩) | (go_at_call 226; refine (lowest_any _ b0 b1 _).mono ?_; rintro e w' ⟨rfl, rfl⟩))
  go_ret
  exact ⟨ret_int (field_eq w a b h0 h1 b1), rfl⟩

end Go.Proofs.YtiafhcgaikapcaaGreat
