/-
  For every word and every place, WordCleared returns true and leaves its arguments as they were: a field set to nought is nought, the word is less by just what it was, and set to ones it is the greatest. No condition.
-/
import Derived.Test.YtjdhhnjocfjalabWCalls
import Derived.Test.YtjdhhnjocfjalabLaw
import Derived.Lib.SmallJoins
import Derived.Deep.QuietTactic
import Derived.BigQuiet
import Derived.Deep.RegionWith
namespace Go.Proofs.Ytjdhhnjocfjalab.wordCleared
open Go.ChangeShapes Go.WideShapes Go.ChangeAt Go.RowKit Go.Joins
set_option linter.unusedVariables false

set_option maxHeartbeats 1000000 in
theorem walk (w a b : Int) (ww : (Lit.int .u64 w).wf = true) (wa : (Lit.int .i64 a).wf = true) (wb : (Lit.int .i64 b).wf = true) (W : World) :
    Calls Try.prog 3 #[.int .u64 w, .agg #[.int .i64 a, .int .i64 b]] W fun e W' => e = .returned (.bool true) ∧ Below W.heap.size W W' := by
  obtain ⟨p0, p1⟩ := bounds_u64 ww
  cases h : isF a b
  · go_enter Try.func3, Try.ntmps3
    go_wp2_with (first | (go_at_call 5; refine (shown_any _).mono ?_; rintro e w' ⟨rfl, rfl⟩) | (go_at_call 6; refine (with_no _ _ _ _ wa wb h _).mono ?_; rintro e w' ⟨rfl, rfl⟩))
    go_ret
    exact ⟨rfl, (Below.refl _ _).alloc (Nat.le_refl _) _⟩
  · obtain ⟨a0, b0, b1, ab⟩ := isF_true h
    obtain ⟨l0, l1⟩ := low_lt b b1
    obtain ⟨x0, x1⟩ := withI_bd w a b 0 p1 (Int.le_refl _) l0 h
    have a1 : a ≤ 63 := by omega
    have E1 : (bits .or .u64 (withI w a b 0) (IntKind.u64.wrap (fieldI w a b * 2 ^ a.toNat)) == w) = true := by rw [clearI_or w a b p0 p1 h]; simp
    have E2 : (fieldI (withI w a b 0) a b == 0) = true := by rw [fieldI_with w a b 0 p1 (Int.le_refl _) l0 h]; rfl
    have E3 : w ≤ withI w a b (lowI b) := onesI_ge w a b p0 p1 h
    have E4 : (bits .or .u64 (withI w a b (lowI b)) w == withI w a b (lowI b)) = true := by rw [onesI_or w a b p0 p1 h]; simp
    have K : Hid (∀ w' : World, Calls Try.prog 6 #[.int .u64 w, .int .i64 a, .int .i64 b, .int .u64 (18446744073709551615 / 2 ^ (64 - b).toNat)] w' fun e w'' => e = .returned (.tuple #[.int .u64 (withI w a b (lowI b)), .int .i64 0]) ∧ w'' = w') := fun w' => by
      rw [low_eq b b0 b1]; exact with_yes w a b (lowI b) p0 p1 l0 wa wb h (Int.le_refl _) w'
    have KF : Hid (∀ w' : World, Calls Try.prog 7 #[.int .u64 w, .int .i64 a, .int .i64 b] w' fun e w'' => e = .returned (.int .u64 (fieldI w a b)) ∧ w'' = w') := fun w' => field_yes w a b p0 p1 wa wb h w'
    have KG : Hid (∀ w' : World, Calls Try.prog 7 #[.int .u64 (withI w a b 0), .int .i64 a, .int .i64 b] w' fun e w'' => e = .returned (.int .u64 (fieldI (withI w a b 0) a b)) ∧ w'' = w') := fun w' => field_yes (withI w a b 0) a b x0 x1 wa wb h w'
    go_enter Try.func3, Try.ntmps3
    go_wp2_with (first | (go_at_call 5; refine (shown_any _).mono ?_; rintro e w' ⟨rfl, rfl⟩) | (go_at_call 6; refine (with_yes _ _ _ _ p0 p1 (Int.le_refl 0) wa wb h l0 _).mono ?_; rintro e w' ⟨rfl, rfl⟩))
    go_quiet ((go_at_call 6; exact Calls.quiet_of_same (K _)))
    go_wp2_with fail
    go_quiet ((first | (go_at_call_of 7 (Value.int IntKind.u64 w); exact quiet_same2 (KF _)) | (go_at_call 7; exact quiet_same2 (KG _))))
    go_wp2_with fail
    go_ret
    exact ⟨rfl, (((Below.refl _ _).alloc (Nat.le_refl _) _).trans (below_draws _ _ _)).trans (below_draws _ _ _)⟩

set_option maxRecDepth 100000 in
theorem lifted (os : Os) (started : os.Started) (H : Type) (enc : TypeId × Value → H) :
    ReturnsInHanded {} Try.checked os 3 .any (Rows.wordClearedSpec.pre6 enc Try.prog Try.f3 Rows.wordClearedRow.domain false) (Rows.wordClearedSpec.post enc Try.prog Try.f3 false true false false) := by
  refine law_frame (C := Try.checked) (ts := [22, 24]) (tb := 4) (by kernel_rfl) started (by kernel_rfl) Try.func3 Try.params3 (by kernel_rfl) Try.underlying4 (by kernel_rfl) (by kernel_rfl) rfl ?_
    (ChangeSpec.witness6 (enc := enc) (C := Try.checked) false ⟨#[], #[.int .u64 0, .agg #[.int .i64 0, .int .i64 0]], []⟩ 8 (by kernel_rfl) (by kernel_rfl) (by kernel_rfl) (by kernel_rfl)) ?_
  · intro ds hd
    match ds, hd with
    | [d0, d1], _ => rfl
  · intro W base args ds p hval hA
    obtain ⟨v0, vs0, d0, ds0, p0, q0, hargs, rfl, rfl, h0, r0⟩ := trodAll_cons hA
    obtain ⟨v1, vs1, d1, ds1, p1, q1, rfl, rfl, rfl, h1, r1⟩ := trodAll_cons r0
    obtain ⟨rfl, rfl, rfl⟩ := trodAll_nil r1
    obtain rfl : args = #[v0, v1] := by cases args; simp_all
    obtain ⟨w, rfl, rfl, rfl, ww⟩ := open_int Try.underlying22 (hval 0 22 v0 rfl rfl) h0
    obtain ⟨c10, c11, y10, y11, m1, rfl, rfl, rfl, hy10, hy11⟩ := open_agg2 Try.underlying24 (by kernel_rfl) (by kernel_rfl) (hval 1 24 v1 rfl rfl) h1
    obtain ⟨a, e10, rfl, wa⟩ := DataW.trod_int Try.underlying3 hy10
    obtain ⟨b, e11, rfl, wb⟩ := DataW.trod_int Try.underlying3 hy11
    simp at e10 e11
    subst e10 e11
    exact walk w a b ww wa wb W

theorem over : Rows.wordClearedRow.holds Try.pinned (OpenSpec.ofChange Rows.wordClearedSpec) :=
  OpenClaim.holds_of_wide 3 Try.f3 rfl rfl rfl rfl rfl rfl rfl ⟨rfl, rfl, rfl, rfl, rfl⟩ rfl rfl rfl rfl rfl (by kernel_rfl) Try.func3 (by kernel_rfl)
    (of_decide_eq_true (by kernel_rfl)) (by unfold Func.isWrapper; first | (rw [if_pos (by decide +kernel)]; kernel_rfl) | (rw [if_neg (by decide +kernel)]; exact ⟨rfl, rfl⟩))
    (fun os started H enc _ => lifted os started H enc)

end Go.Proofs.Ytjdhhnjocfjalab.wordCleared
namespace Go.Proofs.Ytjdhhnjocfjalab
theorem wordCleared_holds : Rows.WordClearedSaid := wordCleared.over
end Go.Proofs.Ytjdhhnjocfjalab
