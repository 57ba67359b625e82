
/-
  The document's examples, at the head of each statement of layer 7: they hold, and leave what was there as it was; the arguments: capabilities, pairs and triples by value.
-/
import Derived.Test.YtbgdmapmbjhbiabKCalls
import Derived.Test.YtbgdmapmbjhbiabFlat
import Derived.Test.YtbgdmapmbjhbiabLaw
namespace Go.Proofs.Ytbgdmapmbjhbiab
open Go.ChangeShapes Go.WideShapes Go.ChangeAt Go.RowKit Go.Joins
set_option maxRecDepth 100000
set_option linter.unusedVariables false
set_option linter.unusedSimpArgs false

theorem shown7_any (w : World) : Calls Try.prog 5 #[] w fun e w' => e = .returned (.bool true) ∧ Below w.heap.size w w' := by
  have C1 := hide (word_any ⟨1, 3, 5, 7, 9⟩)
  rw [show wordV ⟨1, 3, 5, 7, 9⟩ = 2533274907837745 by decide, show wordE ⟨1, 3, 5, 7, 9⟩ = 0 by decide] at C1
  have C2 := hide (of_any 0 (by decide) (by decide))
  rw [show ofV 0 = zc by decide, show isC 0 = false by decide] at C2
  have C3 := hide (dim_any 0 1 1 (by decide) (by decide))
  rw [show dimV 0 1 1 = 0 by decide, show dimE 0 1 1 = 31 by decide] at C3
  have C4 := hide (may_any 2533274907837745 1 2 (by decide) (by decide))
  rw [show mayE 2533274907837745 1 2 = 0 by decide] at C4
  have C5 := hide (may_any 2533274907837745 1 4 (by decide) (by decide))
  rw [show mayE 2533274907837745 1 4 = 32 by decide] at C5
  have C6 := hide (may_any 2533274907837745 2 0 (by decide) (by decide))
  rw [show mayE 2533274907837745 2 0 = 31 by decide] at C6
  rw [show cv ⟨1, 3, 5, 7, 9⟩ = #[.int .i64 1, .int .i64 3, .int .i64 5, .int .i64 7, .int .i64 9] from rfl] at C1
  have nC := cv_new zc 23
  have zC := cv_size zc
  generalize cv zc = Z at *
  go_enter Try.func5, Try.ntmps5
  go_wp2_with fail
  refine (unhide C1 _).mono ?_
  rintro e w1 ⟨rfl, hb⟩
  have O1 := hide ((Own.start w).call hb)
  clear hb
  go_wp2_with fail
  refine (unhide C2 _).mono ?_
  rintro e w2 ⟨rfl, hb⟩
  have O2 := hide (((unhide O1).call hb).alloc (.cells Z 23))
  clear hb O1
  go_wp2_with fail
  refine (unhide C3 _).mono ?_
  rintro e w3 ⟨rfl, hb⟩
  have O3 := hide ((unhide O2).call hb)
  clear hb O2
  go_wp2_with fail
  refine (unhide C4 _).mono ?_
  rintro e w4 ⟨rfl, hb⟩
  have O4 := hide ((unhide O3).call hb)
  clear hb O3
  go_wp2_with fail
  refine (unhide C5 _).mono ?_
  rintro e w5 ⟨rfl, hb⟩
  have O5 := hide ((unhide O4).call hb)
  clear hb O4
  go_wp2_with fail
  refine (unhide C6 _).mono ?_
  rintro e w6 ⟨rfl, hb⟩
  have O6 := hide ((unhide O5).call hb)
  clear hb O5
  go_wp2_with fail
  go_ret
  exact ⟨rfl, (unhide O6).below⟩

/-! ### arguments -/
def IsCap (c : Cp) : Prop := (Lit.int .i64 c.k).wf = true ∧ (Lit.int .i64 c.r).wf = true ∧ (Lit.int .i64 c.i).wf = true ∧ (Lit.int .i64 c.v).wf = true ∧ (Lit.int .i64 c.b).wf = true
theorem wf_u {x : Int} (h : (Lit.int .u64 x).wf = true) : 0 ≤ x ∧ x ≤ 18446744073709551615 := by
  simp [Lit.wf, IntKind.min, IntKind.max, IntKind.signed, IntKind.bits] at h; omega
theorem wf_i {x : Int} (h : (Lit.int .i64 x).wf = true) : -9223372036854775808 ≤ x ∧ x ≤ 9223372036854775807 := by
  simp [Lit.wf, IntKind.min, IntKind.max, IntKind.signed, IntKind.bits] at h; omega
theorem fit_cap : ∀ (vs : List Value), AllFit [some .i64, some .i64, some .i64, some .i64, some .i64] vs → ∃ c : Cp, vs = (cv c).toList ∧ IsCap c
  | [], h => by simp [AllFit] at h
  | [_], h => by simp [AllFit] at h
  | [_, _], h => by simp [AllFit] at h
  | [_, _, _], h => by simp [AllFit] at h
  | [_, _, _, _], h => by simp [AllFit] at h
  | [a, b, c, d, f], h => by
    obtain ⟨h1, h2, h3, h4, h5, -⟩ := h
    obtain ⟨x, rfl, w1⟩ := h1
    obtain ⟨y, rfl, w2⟩ := h2
    obtain ⟨z, rfl, w3⟩ := h3
    obtain ⟨u, rfl, w4⟩ := h4
    obtain ⟨t, rfl, w5⟩ := h5
    exact ⟨⟨x, y, z, u, t⟩, rfl, w1, w2, w3, w4, w5⟩
  | _ :: _ :: _ :: _ :: _ :: _ :: _, h => by simp [AllFit] at h
theorem open_cap {H : Type} {enc : TypeId × Value → H} {W : World} {r : Reach} {b0 base : Nat} {sp : Nat → Bool} {hd : Bool} {v : Value} {d : DataW H} {p : List MemPlace}
    (hv : Value.okWide Try.prog W r b0 23 v) (h : DataW.Trod enc Try.prog W base sp hd 23 v d p) : ∃ x : Cp, v = .agg (cv x) ∧ IsCap x := by
  obtain ⟨cs, rfl, hfit⟩ := flat_open 3 (ks := [some .i64, some .i64, some .i64, some .i64, some .i64]) (by kernel_rfl) (Or.inl ⟨_, Try.underlying23⟩) hv h
  obtain ⟨x, hx, hw⟩ := fit_cap cs.toList hfit
  refine ⟨x, ?_, hw⟩
  congr 1
  rw [← Array.toArray_toList (xs := cs), hx]

end Go.Proofs.Ytbgdmapmbjhbiab
