/-
  For every word and every two places, the second behind the first, WordParts returns true and leaves its arguments as they were: a field is made of its two halves. No condition.
-/
import Derived.Test.YtjdhhnjocfjalaaWCalls
import Derived.Test.YtjdhhnjocfjalaaLaw
import Derived.Lib.SmallJoins
import Derived.Deep.QuietTactic
import Derived.BigQuiet
import Derived.Deep.RegionWith
namespace Go.Proofs.Ytjdhhnjocfjalaa.wordParts
open Go.ChangeShapes Go.WideShapes Go.ChangeAt Go.RowKit Go.Joins
set_option linter.unusedVariables false

set_option maxHeartbeats 1000000 in
theorem walk_no (w a b c : Int) (ww : (Lit.int .u64 w).wf = true) (wa : (Lit.int .i64 a).wf = true) (wb : (Lit.int .i64 b).wf = true) (wc : (Lit.int .i64 c).wf = true) (h : ¬ (0 ≤ a ∧ a ≤ 63 ∧ 1 ≤ b ∧ b ≤ 64 ∧ 1 ≤ c ∧ c ≤ 64 ∧ a + b + c ≤ 64)) (W : World) :
    Calls Try.prog 8 #[.int .u64 w, .agg #[.int .i64 a, .int .i64 b], .int .i64 c] W fun e W' => e = .returned (.bool true) ∧ Below W.heap.size W W' := by
  obtain ⟨p0, p1⟩ := bounds_u64 ww
  have h' : a < 0 ∨ (0 ≤ a ∧ 63 < a) ∨ (0 ≤ a ∧ a ≤ 63 ∧ b < 1) ∨ (0 ≤ a ∧ a ≤ 63 ∧ 1 ≤ b ∧ 64 < b) ∨ (0 ≤ a ∧ a ≤ 63 ∧ 1 ≤ b ∧ b ≤ 64 ∧ c < 1) ∨ (0 ≤ a ∧ a ≤ 63 ∧ 1 ≤ b ∧ b ≤ 64 ∧ 1 ≤ c ∧ 64 < c) ∨
        (0 ≤ a ∧ a ≤ 63 ∧ 1 ≤ b ∧ b ≤ 64 ∧ 1 ≤ c ∧ c ≤ 64 ∧ 64 < a + b + c) := by omega
  clear h
  rcases h' with h1 | ⟨h1, h2⟩ | ⟨h1, h2, h3⟩ | ⟨h1, h2, h3, h4⟩ | ⟨h1, h2, h3, h4, h5⟩ | ⟨h1, h2, h3, h4, h5, h6⟩ | ⟨h1, h2, h3, h4, h5, h6, h7⟩
  all_goals
    go_enter Try.func8, Try.ntmps8
    go_wp2_with (go_at_call 9; refine (shown_any _).mono ?_; rintro e w' ⟨rfl, rfl⟩)
    go_ret
    exact ⟨rfl, (Below.refl _ _).alloc (Nat.le_refl _) _⟩

theorem walk (w a b c : Int) (ww : (Lit.int .u64 w).wf = true) (wa : (Lit.int .i64 a).wf = true) (wb : (Lit.int .i64 b).wf = true) (wc : (Lit.int .i64 c).wf = true) (W : World) :
    Calls Try.prog 8 #[.int .u64 w, .agg #[.int .i64 a, .int .i64 b], .int .i64 c] W fun e W' => e = .returned (.bool true) ∧ Below W.heap.size W W' := by
  obtain ⟨p0, p1⟩ := bounds_u64 ww
  by_cases h : 0 ≤ a ∧ a ≤ 63 ∧ 1 ≤ b ∧ b ≤ 64 ∧ 1 ≤ c ∧ c ≤ 64 ∧ a + b + c ≤ 64
  · obtain ⟨a0, a1, b0, b1, c0, c1, abc⟩ := h
    have i1 : isF a (b + c) = true := isF_mk (by omega)
    have i2 : isF a b = true := isF_mk (by omega)
    have i3 : isF (a + b) c = true := isF_mk (by omega)
    have wbc : (Lit.int .i64 (b + c)).wf = true := wf_i64 (by omega) (by omega)
    have wab : (Lit.int .i64 (a + b)).wf = true := wf_i64 (by omega) (by omega)
    have H : Hid (bits .or .u64 (fieldI w a b) (IntKind.u64.wrap (fieldI w (a + b) c * 2 ^ b.toNat)) = fieldI w a (b + c)) := fieldI_parts w a b c p0 p1 a0 b0 c0 abc
    go_enter Try.func8, Try.ntmps8
    go_wp2_with fail
    refine (shown_any _).mono ?_
    rintro e w' ⟨rfl, rfl⟩
    go_wp2_with fail
    refine (field_yes _ _ _ p0 p1 wa wbc i1 _).mono ?_
    rintro e w' ⟨rfl, rfl⟩
    go_wp2_with fail
    refine (field_yes _ _ _ p0 p1 wa wb i2 _).mono ?_
    rintro e w' ⟨rfl, rfl⟩
    go_wp2_with fail
    refine (field_yes _ _ _ p0 p1 wab wc i3 _).mono ?_
    rintro e w' ⟨rfl, rfl⟩
    go_wp2_with fail
    go_ret
    exact ⟨ret_bool (by rw [H.out]; simp), (Below.refl _ _).alloc (Nat.le_refl _) _⟩
  · exact walk_no w a b c ww wa wb wc h W

set_option maxRecDepth 100000 in
theorem lifted (os : Os) (started : os.Started) (H : Type) (enc : TypeId × Value → H) :
    ReturnsInHanded {} Try.checked os 8 .any (Rows.wordPartsSpec.pre6 enc Try.prog Try.f8 Rows.wordPartsRow.domain false) (Rows.wordPartsSpec.post enc Try.prog Try.f8 false true false false) := by
  refine law_frame (C := Try.checked) (ts := [22, 24, 3]) (tb := 4) (by kernel_rfl) started (by kernel_rfl) Try.func8 Try.params8 (by kernel_rfl) Try.underlying4 (by kernel_rfl) (by kernel_rfl) rfl ?_
    (ChangeSpec.witness6 (enc := enc) (C := Try.checked) false ⟨#[], #[.int .u64 0, .agg #[.int .i64 0, .int .i64 0], .int .i64 0], []⟩ 8 (by kernel_rfl) (by kernel_rfl) (by kernel_rfl) (by kernel_rfl)) ?_
  · intro ds hd
    match ds, hd with
    | [d0, d1, d2], _ => rfl
  · intro W base args ds p hval hA
    obtain ⟨v0, vs0, d0, ds0, p0, q0, hargs, rfl, rfl, h0, r0⟩ := trodAll_cons hA
    obtain ⟨v1, vs1, d1, ds1, p1, q1, rfl, rfl, rfl, h1, r1⟩ := trodAll_cons r0
    obtain ⟨v2, vs2, d2, ds2, p2, q2, rfl, rfl, rfl, h2, r2⟩ := trodAll_cons r1
    obtain ⟨rfl, rfl, rfl⟩ := trodAll_nil r2
    obtain rfl : args = #[v0, v1, v2] := by cases args; simp_all
    obtain ⟨w, rfl, rfl, rfl, ww⟩ := open_int Try.underlying22 (hval 0 22 v0 rfl rfl) h0
    obtain ⟨c10, c11, y10, y11, m1, rfl, rfl, rfl, hy10, hy11⟩ := open_agg2 Try.underlying24 (by kernel_rfl) (by kernel_rfl) (hval 1 24 v1 rfl rfl) h1
    obtain ⟨a, e10, rfl, wa⟩ := DataW.trod_int Try.underlying3 hy10
    obtain ⟨b, e11, rfl, wb⟩ := DataW.trod_int Try.underlying3 hy11
    simp at e10 e11
    subst e10 e11
    obtain ⟨c, rfl, rfl, rfl, wc⟩ := open_int Try.underlying3 (hval 2 3 v2 rfl rfl) h2
    exact walk w a b c ww wa wb wc W

theorem over : Rows.wordPartsRow.holds Try.pinned (OpenSpec.ofChange Rows.wordPartsSpec) :=
  OpenClaim.holds_of_wide 8 Try.f8 rfl rfl rfl rfl rfl rfl rfl ⟨rfl, rfl, rfl, rfl, rfl⟩ rfl rfl rfl rfl rfl (by kernel_rfl) Try.func8 (by kernel_rfl)
    (of_decide_eq_true (by kernel_rfl)) (by unfold Func.isWrapper; first | (rw [if_pos (by decide +kernel)]; kernel_rfl) | (rw [if_neg (by decide +kernel)]; exact ⟨rfl, rfl⟩))
    (fun os started H enc _ => lifted os started H enc)

end Go.Proofs.Ytjdhhnjocfjalaa.wordParts
namespace Go.Proofs.Ytjdhhnjocfjalaa
theorem wordParts_holds : Rows.WordPartsSaid := wordParts.over
end Go.Proofs.Ytjdhhnjocfjalaa
