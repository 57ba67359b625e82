/-
  For every word, every two places and every value, WordApart returns true and leaves its arguments as they were: a field that is apart from the one that is set is as it was. No condition.
-/
import Derived.Test.YtjdhhnjocfjalaaWCalls
import Derived.Test.YtjdhhnjocfjalaaLaw
import Derived.Test.YtjdhhnjocfjalaaFlat
import Derived.Lib.SmallJoins
import Derived.Deep.QuietTactic
import Derived.BigQuiet
import Derived.Deep.RegionWith
namespace Go.Proofs.Ytjdhhnjocfjalaa.wordApart
open Go.ChangeShapes Go.WideShapes Go.ChangeAt Go.RowKit Go.Joins
set_option linter.unusedVariables false

theorem open_two {H : Type} {enc : TypeId × Value → H} {W : World} {r : Reach} {b0 base : Nat} {sp : Nat → Bool} {hd : Bool} {v : Value} {d : DataW H} {p : List MemPlace}
    (hv : Value.okWide Try.prog W r b0 31 v) (h : DataW.Trod enc Try.prog W base sp hd 31 v d p) :
    ∃ x : Int × Int × Int × Int, v = .agg #[.int .i64 x.1, .int .i64 x.2.1, .int .i64 x.2.2.1, .int .i64 x.2.2.2] ∧
      ((Lit.int .i64 x.1).wf = true ∧ (Lit.int .i64 x.2.1).wf = true ∧ (Lit.int .i64 x.2.2.1).wf = true ∧ (Lit.int .i64 x.2.2.2).wf = true) := by
  obtain ⟨cs, rfl, hfit⟩ := flat_open 3 (ks := [some .i64, some .i64, some .i64, some .i64]) (by kernel_rfl) (Or.inr ⟨_, _, Try.underlying31⟩) hv h
  obtain ⟨zs, hl, hz, hw⟩ := allFit_ints .i64 4 cs.toList hfit
  match zs, hl with
  | [a, b, c, e], _ =>
    refine ⟨(a, b, c, e), ?_, hw a (by simp), hw b (by simp), hw c (by simp), hw e (by simp)⟩
    have : cs = ([a, b, c, e].map (fun z => Value.int .i64 z)).toArray := by rw [← hz]
    rw [this]
    rfl

set_option maxHeartbeats 2000000 in
theorem walk (w : Int) (x : Int × Int × Int × Int) (v : Int) (ww : (Lit.int .u64 w).wf = true) (hx : (Lit.int .i64 x.1).wf = true ∧ (Lit.int .i64 x.2.1).wf = true ∧ (Lit.int .i64 x.2.2.1).wf = true ∧ (Lit.int .i64 x.2.2.2).wf = true) (wv : (Lit.int .u64 v).wf = true) (W : World) :
    Calls Try.prog 5 #[.int .u64 w, .agg #[.int .i64 x.1, .int .i64 x.2.1, .int .i64 x.2.2.1, .int .i64 x.2.2.2], .int .u64 v] W fun e W' => e = .returned (.bool true) ∧ Below W.heap.size W W' := by
  obtain ⟨a, b, c, d⟩ := x
  obtain ⟨wa, wb, wc, wd⟩ := hx
  simp only at wa wb wc wd ⊢
  obtain ⟨p0, p1⟩ := bounds_u64 ww
  obtain ⟨q0, q1⟩ := bounds_u64 wv
  have fin : ∀ o1 o2 o3, Below W.heap.size W (((W.alloc o1).alloc o2).alloc o3) := fun o1 o2 o3 => below_alloc3 W o1 o2 o3
  cases h : isF a b
  · go_enter Try.func5, Try.ntmps5
    go_wp2_with (first | (go_at_call 9; refine (shown_any _).mono ?_; rintro e w' ⟨rfl, rfl⟩) | (go_at_call 10; refine (with_no _ _ _ _ wa wb h _).mono ?_; rintro e w' ⟨rfl, rfl⟩))
    go_ret
    exact ⟨rfl, fin _ _ _⟩
  · by_cases hv : v ≤ lowI b
    · obtain ⟨a0, b0, b1, ab⟩ := isF_true h
      by_cases hb : 0 ≤ c ∧ c ≤ 63 ∧ 1 ≤ d ∧ d ≤ 64
      · obtain ⟨c0, c1, d0, d1⟩ := hb
        obtain ⟨x0, x1⟩ := withI_bd w a b v p1 q0 hv h
        by_cases hap : c < a + b ∧ a < c + d
        · obtain ⟨hap1, hap2⟩ := hap
          go_enter Try.func5, Try.ntmps5
          go_wp2_with (first | (go_at_call 9; refine (shown_any _).mono ?_; rintro e w' ⟨rfl, rfl⟩) | (go_at_call 10; refine (with_yes _ _ _ _ p0 p1 q0 wa wb h hv _).mono ?_; rintro e w' ⟨rfl, rfl⟩))
          go_ret
          exact ⟨rfl, fin _ _ _⟩
        · have hap' : a + b ≤ c ∨ (c < a + b ∧ c + d ≤ a) := by omega
          clear hap
          rcases hap' with hap | ⟨hap, hap2⟩
          all_goals
            cases hF : isF c d
            · go_enter Try.func5, Try.ntmps5
              go_wp2_with (first | (go_at_call 9; refine (shown_any _).mono ?_; rintro e w' ⟨rfl, rfl⟩) | (go_at_call 10; refine (with_yes _ _ _ _ p0 p1 q0 wa wb h hv _).mono ?_; rintro e w' ⟨rfl, rfl⟩))
              go_quiet ((go_at_call 12; exact Calls.quiet_of_same (field_no _ _ _ wc wd hF _)))
              go_wp2
              go_ret
              exact ⟨rfl, (fin _ _ _).trans (below_draws _ _ _)⟩
            · have H : Hid (fieldI (withI w a b v) c d = fieldI w c d) := fieldI_apart w a b v c d p1 q0 hv h c0 (by omega) (by omega)
              go_enter Try.func5, Try.ntmps5
              go_wp2_with (first | (go_at_call 9; refine (shown_any _).mono ?_; rintro e w' ⟨rfl, rfl⟩) | (go_at_call 10; refine (with_yes _ _ _ _ p0 p1 q0 wa wb h hv _).mono ?_; rintro e w' ⟨rfl, rfl⟩))
              go_quiet ((go_at_call 12; refine Calls.quiet_of_same (field_yes _ _ _ ?_ ?_ wc wd hF _) <;> assumption))
              go_wp2
              go_ret
              exact ⟨ret_bool (by rw [H.out]; simp), (fin _ _ _).trans (below_draws _ _ _)⟩
      · have hb' : c < 0 ∨ (0 ≤ c ∧ 63 < c) ∨ (0 ≤ c ∧ c ≤ 63 ∧ d < 1) ∨ (0 ≤ c ∧ c ≤ 63 ∧ 1 ≤ d ∧ 64 < d) := by omega
        clear hb
        rcases hb' with h1 | ⟨h1, h2⟩ | ⟨h1, h2, h3⟩ | ⟨h1, h2, h3, h4⟩
        all_goals
          go_enter Try.func5, Try.ntmps5
          go_wp2_with (first | (go_at_call 9; refine (shown_any _).mono ?_; rintro e w' ⟨rfl, rfl⟩) | (go_at_call 10; refine (with_yes _ _ _ _ p0 p1 q0 wa wb h hv _).mono ?_; rintro e w' ⟨rfl, rfl⟩))
          go_ret
          exact ⟨rfl, fin _ _ _⟩
    · have hv' : lowI b < v := by omega
      go_enter Try.func5, Try.ntmps5
      go_wp2_with (first | (go_at_call 9; refine (shown_any _).mono ?_; rintro e w' ⟨rfl, rfl⟩) | (go_at_call 10; refine (with_long _ _ _ _ wa wb h hv' _).mono ?_; rintro e w' ⟨rfl, rfl⟩))
      go_ret
      exact ⟨rfl, fin _ _ _⟩

set_option maxRecDepth 100000 in
theorem lifted (os : Os) (started : os.Started) (H : Type) (enc : TypeId × Value → H) :
    ReturnsInHanded {} Try.checked os 5 .any (Rows.wordApartSpec.pre6 enc Try.prog Try.f5 Rows.wordApartRow.domain false) (Rows.wordApartSpec.post enc Try.prog Try.f5 false true false false) := by
  refine law_frame (C := Try.checked) (ts := [22, 31, 22]) (tb := 4) (by kernel_rfl) started (by kernel_rfl) Try.func5 Try.params5 (by kernel_rfl) Try.underlying4 (by kernel_rfl) (by kernel_rfl) rfl ?_
    (ChangeSpec.witness6 (enc := enc) (C := Try.checked) false ⟨#[], #[.int .u64 0, .agg #[.int .i64 0, .int .i64 0, .int .i64 0, .int .i64 0], .int .u64 0], []⟩ 8 (by kernel_rfl) (by kernel_rfl) (by kernel_rfl) (by kernel_rfl)) ?_
  · intro ds hd
    match ds, hd with
    | [d0, d1, d2], _ => rfl
  · intro W base args ds p hval hA
    obtain ⟨v0, vs0, d0, ds0, p0, q0, hargs, rfl, rfl, h0, r0⟩ := trodAll_cons hA
    obtain ⟨v1, vs1, d1, ds1, p1, q1, rfl, rfl, rfl, h1, r1⟩ := trodAll_cons r0
    obtain ⟨v2, vs2, d2, ds2, p2, q2, rfl, rfl, rfl, h2, r2⟩ := trodAll_cons r1
    obtain ⟨rfl, rfl, rfl⟩ := trodAll_nil r2
    obtain rfl : args = #[v0, v1, v2] := by cases args; simp_all
    obtain ⟨w, rfl, rfl, rfl, ww⟩ := open_int Try.underlying22 (hval 0 22 v0 rfl rfl) h0
    obtain ⟨x, rfl, hx⟩ := open_two (hval 1 31 v1 rfl rfl) h1
    obtain ⟨v, rfl, rfl, rfl, wv⟩ := open_int Try.underlying22 (hval 2 22 v2 rfl rfl) h2
    exact walk w x v ww hx wv W

theorem over : Rows.wordApartRow.holds Try.pinned (OpenSpec.ofChange Rows.wordApartSpec) :=
  OpenClaim.holds_of_wide 5 Try.f5 rfl rfl rfl rfl rfl rfl rfl ⟨rfl, rfl, rfl, rfl, rfl⟩ rfl rfl rfl rfl rfl (by kernel_rfl) Try.func5 (by kernel_rfl)
    (of_decide_eq_true (by kernel_rfl)) (by unfold Func.isWrapper; first | (rw [if_pos (by decide +kernel)]; kernel_rfl) | (rw [if_neg (by decide +kernel)]; exact ⟨rfl, rfl⟩))
    (fun os started H enc _ => lifted os started H enc)

end Go.Proofs.Ytjdhhnjocfjalaa.wordApart
namespace Go.Proofs.Ytjdhhnjocfjalaa
theorem wordApart_holds : Rows.WordApartSaid := wordApart.over
end Go.Proofs.Ytjdhhnjocfjalaa
