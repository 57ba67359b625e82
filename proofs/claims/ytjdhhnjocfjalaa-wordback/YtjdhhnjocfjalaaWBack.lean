/-
  For every word, place and value, WordBack returns true and leaves its arguments as they were: what is set is there, setting what is there changes nothing, setting it back is the word as it was. No condition.
-/
import Derived.Test.YtjdhhnjocfjalaaWCalls
import Derived.Test.YtjdhhnjocfjalaaLaw
import Derived.Lib.SmallJoins
import Derived.Deep.QuietTactic
import Derived.BigQuiet
import Derived.Deep.RegionWith
namespace Go.Proofs.Ytjdhhnjocfjalaa.wordBack
open Go.ChangeShapes Go.WideShapes Go.ChangeAt Go.RowKit Go.Joins
set_option linter.unusedVariables false

theorem walk (w a b v : Int) (ww : (Lit.int .u64 w).wf = true) (wa : (Lit.int .i64 a).wf = true) (wb : (Lit.int .i64 b).wf = true) (wv : (Lit.int .u64 v).wf = true) (W : World) :
    Calls Try.prog 4 #[.int .u64 w, .agg #[.int .i64 a, .int .i64 b], .int .u64 v] W fun e W' => e = .returned (.bool true) ∧ Below W.heap.size W W' := by
  obtain ⟨p0, p1⟩ := bounds_u64 ww
  obtain ⟨q0, q1⟩ := bounds_u64 wv
  cases h : isF a b
  · go_enter Try.func4, Try.ntmps4
    go_wp2_with (first | (go_at_call 9; refine (shown_any _).mono ?_; rintro e w' ⟨rfl, rfl⟩) | (go_at_call 10; refine (with_no _ _ _ _ wa wb h _).mono ?_; rintro e w' ⟨rfl, rfl⟩))
    go_ret
    exact ⟨rfl, (Below.refl _ _).alloc (Nat.le_refl _) _⟩
  · by_cases hv : v ≤ lowI b
    · obtain ⟨f0, f1⟩ := fieldI_low w a b
      obtain ⟨x0, x1⟩ := withI_bd w a b v p1 q0 hv h
      have H1 : Hid (fieldI (withI w a b v) a b = v) := fieldI_with w a b v p1 q0 hv h
      have H2 : Hid (withI w a b (fieldI w a b) = w) := withI_field w a b p0 p1 h
      have H3 : Hid (withI (withI w a b v) a b (fieldI w a b) = w) := withI_back w a b v p0 p1 q0 hv h
      go_enter Try.func4, Try.ntmps4
      go_wp2_with fail
      refine (shown_any _).mono ?_
      rintro e w' ⟨rfl, rfl⟩
      go_wp2_with fail
      refine (with_yes _ _ _ _ p0 p1 q0 wa wb h hv _).mono ?_
      rintro e w' ⟨rfl, rfl⟩
      go_wp2_with fail
      refine (field_yes _ _ _ p0 p1 wa wb h _).mono ?_
      rintro e w' ⟨rfl, rfl⟩
      go_wp2_with fail
      refine (with_yes _ _ _ _ p0 p1 f0 wa wb h f1 _).mono ?_
      rintro e w' ⟨rfl, rfl⟩
      rw [H2.out]
      go_wp2_with fail
      refine (with_yes _ _ _ _ x0 x1 f0 wa wb h f1 _).mono ?_
      rintro e w' ⟨rfl, rfl⟩
      rw [H3.out]
      go_wp2_with fail
      refine (field_yes _ _ _ x0 x1 wa wb h _).mono ?_
      rintro e w' ⟨rfl, rfl⟩
      rw [H1.out]
      go_wp2_with fail
      go_ret
      exact ⟨rfl, (Below.refl _ _).alloc (Nat.le_refl _) _⟩
    · have hv' : lowI b < v := by omega
      go_enter Try.func4, Try.ntmps4
      go_wp2_with (first | (go_at_call 9; refine (shown_any _).mono ?_; rintro e w' ⟨rfl, rfl⟩) | (go_at_call 10; refine (with_long _ _ _ _ wa wb h hv' _).mono ?_; rintro e w' ⟨rfl, rfl⟩))
      go_ret
      exact ⟨rfl, (Below.refl _ _).alloc (Nat.le_refl _) _⟩

set_option maxRecDepth 100000 in
theorem lifted (os : Os) (started : os.Started) (H : Type) (enc : TypeId × Value → H) :
    ReturnsInHanded {} Try.checked os 4 .any (Rows.wordBackSpec.pre6 enc Try.prog Try.f4 Rows.wordBackRow.domain false) (Rows.wordBackSpec.post enc Try.prog Try.f4 false true false false) := by
  refine law_frame (C := Try.checked) (ts := [22, 24, 22]) (tb := 4) (by kernel_rfl) started (by kernel_rfl) Try.func4 Try.params4 (by kernel_rfl) Try.underlying4 (by kernel_rfl) (by kernel_rfl) rfl ?_
    (ChangeSpec.witness6 (enc := enc) (C := Try.checked) false ⟨#[], #[.int .u64 0, .agg #[.int .i64 0, .int .i64 0], .int .u64 0], []⟩ 8 (by kernel_rfl) (by kernel_rfl) (by kernel_rfl) (by kernel_rfl)) ?_
  · intro ds hd
    match ds, hd with
    | [d0, d1, d2], _ => rfl
  · intro W base args ds p hval hA
    obtain ⟨v0, vs0, d0, ds0, p0, q0, hargs, rfl, rfl, h0, r0⟩ := trodAll_cons hA
    obtain ⟨v1, vs1, d1, ds1, p1, q1, rfl, rfl, rfl, h1, r1⟩ := trodAll_cons r0
    obtain ⟨v2, vs2, d2, ds2, p2, q2, rfl, rfl, rfl, h2, r2⟩ := trodAll_cons r1
    obtain ⟨rfl, rfl, rfl⟩ := trodAll_nil r2
    obtain rfl : args = #[v0, v1, v2] := by cases args; simp_all
    obtain ⟨w, rfl, rfl, rfl, ww⟩ := open_int Try.underlying22 (hval 0 22 v0 rfl rfl) h0
    obtain ⟨c10, c11, y10, y11, m1, rfl, rfl, rfl, hy10, hy11⟩ := open_agg2 Try.underlying24 (by kernel_rfl) (by kernel_rfl) (hval 1 24 v1 rfl rfl) h1
    obtain ⟨a, e10, rfl, wa⟩ := DataW.trod_int Try.underlying3 hy10
    obtain ⟨b, e11, rfl, wb⟩ := DataW.trod_int Try.underlying3 hy11
    simp at e10 e11
    subst e10 e11
    obtain ⟨v, rfl, rfl, rfl, wv⟩ := open_int Try.underlying22 (hval 2 22 v2 rfl rfl) h2
    exact walk w a b v ww wa wb wv W

theorem over : Rows.wordBackRow.holds Try.pinned (OpenSpec.ofChange Rows.wordBackSpec) :=
  OpenClaim.holds_of_wide 4 Try.f4 rfl rfl rfl rfl rfl rfl rfl ⟨rfl, rfl, rfl, rfl, rfl⟩ rfl rfl rfl rfl rfl (by kernel_rfl) Try.func4 (by kernel_rfl)
    (of_decide_eq_true (by kernel_rfl)) (by unfold Func.isWrapper; first | (rw [if_pos (by decide +kernel)]; kernel_rfl) | (rw [if_neg (by decide +kernel)]; exact ⟨rfl, rfl⟩))
    (fun os started H enc _ => lifted os started H enc)

end Go.Proofs.Ytjdhhnjocfjalaa.wordBack
namespace Go.Proofs.Ytjdhhnjocfjalaa
theorem wordBack_holds : Rows.WordBackSaid := wordBack.over
end Go.Proofs.Ytjdhhnjocfjalaa
