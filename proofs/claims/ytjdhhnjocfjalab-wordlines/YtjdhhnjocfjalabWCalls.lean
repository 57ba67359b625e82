/-
  Package word's functions: what each call returns, in any world, for all integers that fit; the world stays as it is.
-/
import Derived.Test.YtjdhhnjocfjalabRows
import Derived.Test.YtjdhhnjocfjalabWMath
import Derived.WalkKit
import Derived.WalkLawsBesides
import Derived.ProofKit
import Derived.OpenShut
namespace Go.Proofs.Ytjdhhnjocfjalab
open Go.ChangeShapes Go.WideShapes Go.ChangeAt Go.RowKit
set_option linter.unusedVariables false

theorem ret_int {k : IntKind} {a b : Int} (h : a = b) : Ending.returned (.int k a) = .returned (.int k b) := by rw [h]
theorem ret_bool {a b : Bool} (h : a = b) : Ending.returned (.bool a) = .returned (.bool b) := by rw [h]
theorem ret_two {k : IntKind} {a b : Int} {v : Value} (h : a = b) : Ending.returned (.tuple #[.int k a, v]) = .returned (.tuple #[.int k b, v]) := by rw [h]

theorem wf_i64 {n : Int} (h0 : -9223372036854775808 ≤ n) (h1 : n ≤ 9223372036854775807) : (Lit.int .i64 n).wf = true := by
  simp [Lit.wf, IntKind.min, IntKind.max, IntKind.signed, IntKind.bits]; omega

theorem lowest_any (b : Int) (h1 : 1 ≤ b) (h2 : b ≤ 64) (w : World) :
    Calls Try.prog 11 #[.int .i64 b] w fun e w' => e = .returned (.int .u64 (lowI b)) ∧ w' = w := by
  go_enter Try.func11, Try.ntmps11
  go_wp2
  go_ret
  exact ⟨ret_int (low_eq b h1 h2), rfl⟩

theorem isField_any (a b : Int) (w0 : (Lit.int .i64 a).wf = true) (w1 : (Lit.int .i64 b).wf = true) (w : World) :
    Calls Try.prog 10 #[.int .i64 a, .int .i64 b] w fun e w' => e = .returned (.bool (isF a b)) ∧ w' = w := by
  go_enter Try.func10, Try.ntmps10
  go_wp2
  all_goals go_ret
  all_goals refine ⟨ret_bool ?_, rfl⟩
  all_goals unfold isF
  · refine decide_eq_decide.2 ?_; omega
  all_goals (symm; rw [decide_eq_false_iff_not]; omega)

theorem field_no (w a b : Int) (wa : (Lit.int .i64 a).wf = true) (wb : (Lit.int .i64 b).wf = true) (h : isF a b = false) (W : World) :
    Calls Try.prog 7 #[.int .u64 w, .int .i64 a, .int .i64 b] W fun e w' => e = .returned (.int .u64 0) ∧ w' = W := by
  go_enter Try.func7, Try.ntmps7
  go_wp2_with (go_at_call 10; refine (isField_any _ _ wa wb _).mono ?_; rintro e w' ⟨rfl, rfl⟩)
  go_ret
  exact ⟨rfl, rfl⟩

theorem field_yes (w a b : Int) (h0 : 0 ≤ w) (h1 : w ≤ 18446744073709551615) (wa : (Lit.int .i64 a).wf = true) (wb : (Lit.int .i64 b).wf = true) (h : isF a b = true) (W : World) :
    Calls Try.prog 7 #[.int .u64 w, .int .i64 a, .int .i64 b] W fun e w' => e = .returned (.int .u64 (fieldI w a b)) ∧ w' = W := by
  obtain ⟨a0, b0, b1, ab⟩ := isF_true h
  have a1 : a ≤ 63 := by omega
  go_enter Try.func7, Try.ntmps7
  go_wp2_with (first | (go_at_call 10; refine (isField_any _ _ wa wb _).mono ?_; rintro e w' ⟨rfl, rfl⟩) | (go_at_call 11; refine (lowest_any _ b0 b1 _).mono ?_; rintro e w' ⟨rfl, rfl⟩))
  go_ret
  exact ⟨ret_int (field_eq w a b h0 h1 b1), rfl⟩

theorem with_no (w a b v : Int) (wa : (Lit.int .i64 a).wf = true) (wb : (Lit.int .i64 b).wf = true) (h : isF a b = false) (W : World) :
    Calls Try.prog 6 #[.int .u64 w, .int .i64 a, .int .i64 b, .int .u64 v] W fun e w' => e = .returned (.tuple #[.int .u64 0, .int .i64 1]) ∧ w' = W := by
  go_enter Try.func6, Try.ntmps6
  go_wp2_with (go_at_call 10; refine (isField_any _ _ wa wb _).mono ?_; rintro e w' ⟨rfl, rfl⟩)
  go_ret2
  exact ⟨rfl, rfl⟩

theorem with_long (w a b v : Int) (wa : (Lit.int .i64 a).wf = true) (wb : (Lit.int .i64 b).wf = true) (h : isF a b = true) (hv : lowI b < v) (W : World) :
    Calls Try.prog 6 #[.int .u64 w, .int .i64 a, .int .i64 b, .int .u64 v] W fun e w' => e = .returned (.tuple #[.int .u64 0, .int .i64 2]) ∧ w' = W := by
  obtain ⟨a0, b0, b1, ab⟩ := isF_true h
  go_enter Try.func6, Try.ntmps6
  go_wp2_with (first | (go_at_call 10; refine (isField_any _ _ wa wb _).mono ?_; rintro e w' ⟨rfl, rfl⟩) | (go_at_call 11; refine (lowest_any _ b0 b1 _).mono ?_; rintro e w' ⟨rfl, rfl⟩))
  go_ret2
  exact ⟨rfl, rfl⟩

theorem with_yes (w a b v : Int) (h0 : 0 ≤ w) (h1 : w ≤ 18446744073709551615) (v0 : 0 ≤ v) (wa : (Lit.int .i64 a).wf = true) (wb : (Lit.int .i64 b).wf = true) (h : isF a b = true) (hv : v ≤ lowI b) (W : World) :
    Calls Try.prog 6 #[.int .u64 w, .int .i64 a, .int .i64 b, .int .u64 v] W fun e w' => e = .returned (.tuple #[.int .u64 (withI w a b v), .int .i64 0]) ∧ w' = W := by
  obtain ⟨a0, b0, b1, ab⟩ := isF_true h
  have a1 : a ≤ 63 := by omega
  go_enter Try.func6, Try.ntmps6
  go_wp2_with (first | (go_at_call 10; refine (isField_any _ _ wa wb _).mono ?_; rintro e w' ⟨rfl, rfl⟩) | (go_at_call 11; refine (lowest_any _ b0 b1 _).mono ?_; rintro e w' ⟨rfl, rfl⟩))
  go_ret2
  exact ⟨ret_two (with_eq w a b v h0 h1 v0 hv a0 b0 ab), rfl⟩

theorem number_neg (a b : Int) (h : b < 0) (w : World) :
    Calls Try.prog 9 #[.int .u64 a, .int .i64 b] w fun e w' => e = .returned (.tuple #[.int .i64 0, .int .i64 2]) ∧ w' = w := by
  go_enter Try.func9, Try.ntmps9
  go_wp2
  go_ret2
  exact ⟨rfl, rfl⟩

theorem number_long (a b : Int) (b0 : 0 ≤ b) (b1 : b ≤ 9223372036854775807) (h : b < a) (w : World) :
    Calls Try.prog 9 #[.int .u64 a, .int .i64 b] w fun e w' => e = .returned (.tuple #[.int .i64 0, .int .i64 2]) ∧ w' = w := by
  go_enter Try.func9, Try.ntmps9
  go_wp2
  go_ret2
  exact ⟨rfl, rfl⟩

theorem number_yes (a b : Int) (b1 : b ≤ 9223372036854775807) (a0 : 0 ≤ a) (h : a ≤ b) (w : World) :
    Calls Try.prog 9 #[.int .u64 a, .int .i64 b] w fun e w' => e = .returned (.tuple #[.int .i64 a, .int .i64 0]) ∧ w' = w := by
  have b0 : 0 ≤ b := by omega
  go_enter Try.func9, Try.ntmps9
  go_wp2
  go_ret2
  exact ⟨rfl, rfl⟩

theorem shown_any (w : World) :
    Calls Try.prog 5 #[] w fun e w' => e = .returned (.bool true) ∧ w' = w := by
  go_enter Try.func5, Try.ntmps5
  go_wp2_with fail
  refine (with_yes 43981 4 8 18 (by decide) (by decide) (by decide) (by decide) (by decide) (by decide) (by decide) _).mono ?_
  rintro e w' ⟨rfl, rfl⟩
  go_wp2_with fail
  refine (with_long 0 0 4 16 (by decide) (by decide) (by decide) (by decide) _).mono ?_
  rintro e w' ⟨rfl, rfl⟩
  go_wp2_with fail
  refine (with_no 0 1 64 0 (by decide) (by decide) (by decide) _).mono ?_
  rintro e w' ⟨rfl, rfl⟩
  go_wp2_with fail
  refine (number_long 5 4 (by decide) (by decide) (by decide) _).mono ?_
  rintro e w' ⟨rfl, rfl⟩
  go_wp2_with fail
  refine (number_yes 5 5 (by decide) (by decide) (by decide) _).mono ?_
  rintro e w' ⟨rfl, rfl⟩
  have e1 : fieldI 43981 4 8 = 188 := by decide
  have e2 : withI 43981 4 8 18 = 41261 := by decide
  rw [e2]
  go_wp2_with fail
  refine (field_yes 43981 4 8 (by decide) (by decide) (by decide) (by decide) (by decide) _).mono ?_
  rintro e w' ⟨rfl, rfl⟩
  rw [e1]
  go_wp2_with fail
  refine (field_no 7 60 8 (by decide) (by decide) (by decide) _).mono ?_
  rintro e w' ⟨rfl, rfl⟩
  go_wp2_with fail
  go_ret
  exact ⟨rfl, rfl⟩

end Go.Proofs.Ytjdhhnjocfjalab
