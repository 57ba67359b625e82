/-
  For every word, every place and every value, WordFields returns true and leaves its arguments as they were: a field is read, and set, or refused, just as the document says. No condition.
-/
import Derived.Test.YtjdhhnjocfjalaaWRefs
import Derived.Test.YtjdhhnjocfjalaaLaw
import Derived.Lib.SmallJoins
import Derived.Deep.QuietTactic
import Derived.BigQuiet
import Derived.Deep.RegionWith
namespace Go.Proofs.Ytjdhhnjocfjalaa.wordFields
open Go.ChangeShapes Go.WideShapes Go.ChangeAt Go.RowKit Go.Joins
set_option linter.unusedVariables false

theorem walk (w a b v : Int) (ww : (Lit.int .u64 w).wf = true) (wa : (Lit.int .i64 a).wf = true) (wb : (Lit.int .i64 b).wf = true) (wv : (Lit.int .u64 v).wf = true) (W : World) :
    Calls Try.prog 3 #[.int .u64 w, .agg #[.int .i64 a, .int .i64 b], .int .u64 v] W fun e W' => e = .returned (.bool true) ∧ Below W.heap.size W W' := by
  obtain ⟨p0, p1⟩ := bounds_u64 ww
  obtain ⟨q0, q1⟩ := bounds_u64 wv
  cases h : isF a b
  · go_enter Try.func3, Try.ntmps3
    go_wp2_with (first | (go_at_call 9; refine (shown_any _).mono ?_; rintro e w' ⟨rfl, rfl⟩) | (go_at_call 10; refine (with_no _ _ _ _ wa wb h _).mono ?_; rintro e w' ⟨rfl, rfl⟩) | (go_at_call 11; refine (rwith_no _ _ _ _ wa wb h _).mono ?_; rintro e w' ⟨rfl, rfl⟩))
    go_quiet ((first | (go_at_call 12; exact Calls.quiet_of_same (field_no _ _ _ wa wb h _)) | (go_at_call 13; exact Calls.quiet_of_same (rfield_no _ _ _ wa wb h _))))
    go_wp2
    go_ret
    exact ⟨rfl, ((Below.refl _ _).alloc (Nat.le_refl _) _).trans (below_draws _ _ _)⟩
  · by_cases hv : v ≤ lowI b
    · go_enter Try.func3, Try.ntmps3
      go_wp2_with (first | (go_at_call 9; refine (shown_any _).mono ?_; rintro e w' ⟨rfl, rfl⟩) | (go_at_call 10; refine (with_yes _ _ _ _ p0 p1 q0 wa wb h hv _).mono ?_; rintro e w' ⟨rfl, rfl⟩) | (go_at_call 11; refine (rwith_yes _ _ _ _ p0 p1 q0 q1 wa wb h hv _).mono ?_; rintro e w' ⟨rfl, rfl⟩))
      go_quiet ((first | (go_at_call 12; exact Calls.quiet_of_same (field_yes _ _ _ p0 p1 wa wb h _)) | (go_at_call 13; exact Calls.quiet_of_same (rfield_yes _ _ _ p0 p1 wa wb h _))))
      go_wp2
      go_ret
      exact ⟨rfl, ((Below.refl _ _).alloc (Nat.le_refl _) _).trans (below_draws _ _ _)⟩
    · have hv' : lowI b < v := by omega
      go_enter Try.func3, Try.ntmps3
      go_wp2_with (first | (go_at_call 9; refine (shown_any _).mono ?_; rintro e w' ⟨rfl, rfl⟩) | (go_at_call 10; refine (with_long _ _ _ _ wa wb h hv' _).mono ?_; rintro e w' ⟨rfl, rfl⟩) | (go_at_call 11; refine (rwith_long _ _ _ _ q0 q1 wa wb h hv' _).mono ?_; rintro e w' ⟨rfl, rfl⟩))
      go_quiet ((first | (go_at_call 12; exact Calls.quiet_of_same (field_yes _ _ _ p0 p1 wa wb h _)) | (go_at_call 13; exact Calls.quiet_of_same (rfield_yes _ _ _ p0 p1 wa wb h _))))
      go_wp2
      go_ret
      exact ⟨rfl, ((Below.refl _ _).alloc (Nat.le_refl _) _).trans (below_draws _ _ _)⟩

set_option maxRecDepth 100000 in
theorem lifted (os : Os) (started : os.Started) (H : Type) (enc : TypeId × Value → H) :
    ReturnsInHanded {} Try.checked os 3 .any (Rows.wordFieldsSpec.pre6 enc Try.prog Try.f3 Rows.wordFieldsRow.domain false) (Rows.wordFieldsSpec.post enc Try.prog Try.f3 false true false false) := by
  refine law_frame (C := Try.checked) (ts := [22, 24, 22]) (tb := 4) (by kernel_rfl) started (by kernel_rfl) Try.func3 Try.params3 (by kernel_rfl) Try.underlying4 (by kernel_rfl) (by kernel_rfl) rfl ?_
    (ChangeSpec.witness6 (enc := enc) (C := Try.checked) false ⟨#[], #[.int .u64 0, .agg #[.int .i64 0, .int .i64 0], .int .u64 0], []⟩ 8 (by kernel_rfl) (by kernel_rfl) (by kernel_rfl) (by kernel_rfl)) ?_
  · intro ds hd
    match ds, hd with
    | [d0, d1, d2], _ => rfl
  · intro W base args ds p hval hA
    obtain ⟨v0, vs0, d0, ds0, p0, q0, hargs, rfl, rfl, h0, r0⟩ := trodAll_cons hA
    obtain ⟨v1, vs1, d1, ds1, p1, q1, rfl, rfl, rfl, h1, r1⟩ := trodAll_cons r0
    obtain ⟨v2, vs2, d2, ds2, p2, q2, rfl, rfl, rfl, h2, r2⟩ := trodAll_cons r1
    obtain ⟨rfl, rfl, rfl⟩ := trodAll_nil r2
    obtain rfl : args = #[v0, v1, v2] := by cases args; simp_all
    obtain ⟨w, rfl, rfl, rfl, ww⟩ := open_int Try.underlying22 (hval 0 22 v0 rfl rfl) h0
    obtain ⟨c10, c11, y10, y11, m1, rfl, rfl, rfl, hy10, hy11⟩ := open_agg2 Try.underlying24 (by kernel_rfl) (by kernel_rfl) (hval 1 24 v1 rfl rfl) h1
    obtain ⟨a, e10, rfl, wa⟩ := DataW.trod_int Try.underlying3 hy10
    obtain ⟨b, e11, rfl, wb⟩ := DataW.trod_int Try.underlying3 hy11
    simp at e10 e11
    subst e10 e11
    obtain ⟨v, rfl, rfl, rfl, wv⟩ := open_int Try.underlying22 (hval 2 22 v2 rfl rfl) h2
    exact walk w a b v ww wa wb wv W

theorem over : Rows.wordFieldsRow.holds Try.pinned (OpenSpec.ofChange Rows.wordFieldsSpec) :=
  OpenClaim.holds_of_wide 3 Try.f3 rfl rfl rfl rfl rfl rfl rfl ⟨rfl, rfl, rfl, rfl, rfl⟩ rfl rfl rfl rfl rfl (by kernel_rfl) Try.func3 (by kernel_rfl)
    (of_decide_eq_true (by kernel_rfl)) (by unfold Func.isWrapper; first | (rw [if_pos (by decide +kernel)]; kernel_rfl) | (rw [if_neg (by decide +kernel)]; exact ⟨rfl, rfl⟩))
    (fun os started H enc _ => lifted os started H enc)

end Go.Proofs.Ytjdhhnjocfjalaa.wordFields
namespace Go.Proofs.Ytjdhhnjocfjalaa
theorem wordFields_holds : Rows.WordFieldsSaid := wordFields.over
end Go.Proofs.Ytjdhhnjocfjalaa
