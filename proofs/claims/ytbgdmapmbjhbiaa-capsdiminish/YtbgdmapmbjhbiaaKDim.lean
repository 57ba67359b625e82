
/-
  For every word, rights and badge, CapsDiminish returns true: any word is diminished, or refused, as the document says, and what it becomes is within what it was. No condition.
-/
import Derived.Test.YtbgdmapmbjhbiaaKShown
import Derived.Test.YtbgdmapmbjhbiaaKRef2
import Derived.Test.YtbgdmapmbjhbiaaKIn
import Derived.Test.YtbgdmapmbjhbiaaKLess
namespace Go.Proofs.Ytbgdmapmbjhbiaa.capsDiminish
open Go.ChangeShapes Go.WideShapes Go.ChangeAt Go.RowKit Go.Joins
set_option linter.unusedVariables false
set_option linter.unusedSimpArgs false

set_option maxHeartbeats 4000000 in
set_option maxRecDepth 100000 in
theorem walk (x y z : Int) (hx : (Lit.int .u64 x).wf = true) (hy : (Lit.int .i64 y).wf = true) (hz : (Lit.int .i64 z).wf = true) (W : World) :
    Calls Try.prog 5 #[.int .u64 x, .int .i64 y, .int .i64 z] W fun e W' => e = .returned (.bool true) ∧ Below W.heap.size W W' := by
  obtain ⟨h0, h1⟩ := wf_u hx
  have C1 := hide (dim_any x y z h0 h1)
  have C2 := hide (rdim_any x y z h0 h1)
  clear hx hy hz
  by_cases hE0 : dimE x y z = 0
  · have C3 := hide (in_any (dimV x y z) x (dimV_bd x y z).1 (dimV_bd x y z).2 h0 h1)
    rw [dim_in hE0] at C3
    rw [hE0] at C1 C2
    obtain ⟨q0, q1⟩ := dimV_bd x y z
    generalize dimV x y z = V at *
    clear hE0
    obtain ⟨E, hEE⟩ : ∃ E : Int, E = 0 := ⟨0, rfl⟩
    clear hEE
    have hV : (V == V) = true := by simp
    have hE : (E == E) = true := by simp
    go_enter Try.func5, Try.ntmps5
    go_wp2_with fail
    refine (shown7_any _).mono ?_
    rintro e w1 ⟨rfl, hb⟩
    have O1 := hide ((Own.start W).call hb)
    clear hb
    go_wp2_with fail
    refine (unhide C1 _).mono ?_
    rintro e w2 ⟨rfl, hb⟩
    have O2 := hide ((unhide O1).call hb)
    clear hb O1
    go_wp2_with fail
    refine (unhide C2 _).mono ?_
    rintro e w3 ⟨rfl, hb⟩
    have O3 := hide ((unhide O2).call hb)
    clear hb O2
    go_wp2_with fail
    refine (unhide C3 _).mono ?_
    rintro e w4 ⟨rfl, hb⟩
    have O4 := hide ((unhide O3).call hb)
    clear hb O3
    go_wp2_with fail
    go_ret
    exact ⟨rfl, (unhide O4).below⟩
  · have hn : (dimE x y z != 0) = true := by simpa using hE0
    generalize dimV x y z = V at *
    generalize dimE x y z = E at *
    clear hE0
    have hV : (V == V) = true := by simp
    have hE : (E == E) = true := by simp
    go_enter Try.func5, Try.ntmps5
    go_wp2_with fail
    refine (shown7_any _).mono ?_
    rintro e w1 ⟨rfl, hb⟩
    have O1 := hide ((Own.start W).call hb)
    clear hb
    go_wp2_with fail
    refine (unhide C1 _).mono ?_
    rintro e w2 ⟨rfl, hb⟩
    have O2 := hide ((unhide O1).call hb)
    clear hb O1
    go_wp2_with fail
    refine (unhide C2 _).mono ?_
    rintro e w3 ⟨rfl, hb⟩
    have O3 := hide ((unhide O2).call hb)
    clear hb O2
    go_wp2_with fail
    go_ret
    exact ⟨rfl, (unhide O3).below⟩

set_option maxRecDepth 100000 in
theorem lifted (os : Os) (started : os.Started) (H : Type) (enc : TypeId × Value → H) :
    ReturnsInHanded {} Try.checked os 5 .any (Rows.capsDiminishSpec.pre6 enc Try.prog Try.f5 Rows.capsDiminishRow.domain false) (Rows.capsDiminishSpec.post enc Try.prog Try.f5 false true false false) := by
  refine law_frame (C := Try.checked) (ts := [24, 3, 3]) (tb := 4) (by kernel_rfl) started (by kernel_rfl) Try.func5 Try.params5 (by kernel_rfl) Try.underlying4 (by kernel_rfl) (by kernel_rfl) rfl ?_
    (ChangeSpec.witness6 (enc := enc) (C := Try.checked) false ⟨#[], #[.int .u64 0, .int .i64 0, .int .i64 0], []⟩ 8 (by kernel_rfl) (by kernel_rfl) (by kernel_rfl) (by kernel_rfl)) ?_
  · intro ds hd
    match ds, hd with
    | [d0, d1, d2], _ => rfl
  · intro W base args ds p hval hA
    obtain ⟨v0, vs0, d0, ds0, p0, q0, hargs, rfl, rfl, h0, r0⟩ := trodAll_cons hA
    obtain ⟨v1, vs1, d1, ds1, p1, q1, rfl, rfl, rfl, h1, r1⟩ := trodAll_cons r0
    obtain ⟨v2, vs2, d2, ds2, p2, q2, rfl, rfl, rfl, h2, r2⟩ := trodAll_cons r1
    obtain ⟨rfl, rfl, rfl⟩ := trodAll_nil r2
    obtain rfl : args = #[v0, v1, v2] := by cases args; simp_all
    obtain ⟨x, rfl, rfl, rfl, wx⟩ := open_int Try.underlying24 (hval 0 24 v0 rfl rfl) h0
    obtain ⟨y, rfl, rfl, rfl, wy⟩ := open_int Try.underlying3 (hval 1 3 v1 rfl rfl) h1
    obtain ⟨z, rfl, rfl, rfl, wz⟩ := open_int Try.underlying3 (hval 2 3 v2 rfl rfl) h2
    exact walk x y z wx wy wz W

theorem over : Rows.capsDiminishRow.holds Try.pinned (OpenSpec.ofChange Rows.capsDiminishSpec) :=
  OpenClaim.holds_of_wide 5 Try.f5 rfl rfl rfl rfl rfl rfl rfl ⟨rfl, rfl, rfl, rfl, rfl⟩ rfl rfl rfl rfl rfl (by kernel_rfl) Try.func5 (by kernel_rfl)
    (of_decide_eq_true (by kernel_rfl)) (by unfold Func.isWrapper; first | (rw [if_pos (by decide +kernel)]; kernel_rfl) | (rw [if_neg (by decide +kernel)]; exact ⟨rfl, rfl⟩))
    (fun os started H enc _ => lifted os started H enc)

end Go.Proofs.Ytbgdmapmbjhbiaa.capsDiminish
namespace Go.Proofs.Ytbgdmapmbjhbiaa
theorem capsDiminish_holds : Rows.CapsDiminishSaid := capsDiminish.over
end Go.Proofs.Ytbgdmapmbjhbiaa
