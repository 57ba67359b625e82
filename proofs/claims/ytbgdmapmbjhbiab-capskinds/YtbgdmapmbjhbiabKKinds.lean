
/-
  For every word, kind and rights, CapsKinds returns true: a capability of one kind may nothing of another kind, with whatever rights, and all of its own kind, with the rights that it has. No condition.
-/
import Derived.Test.YtbgdmapmbjhbiabKShown
import Derived.Test.YtbgdmapmbjhbiabKLess
namespace Go.Proofs.Ytbgdmapmbjhbiab.capsKinds
open Go.ChangeShapes Go.WideShapes Go.ChangeAt Go.RowKit Go.Joins
set_option linter.unusedVariables false
set_option linter.unusedSimpArgs false

set_option maxHeartbeats 4000000 in
set_option maxRecDepth 100000 in
theorem walk (x y z : Int) (hx : (Lit.int .u64 x).wf = true) (hy : (Lit.int .i64 y).wf = true) (hz : (Lit.int .i64 z).wf = true) (W : World) :
    Calls Try.prog 4 #[.int .u64 x, .int .i64 y, .int .i64 z] W fun e W' => e = .returned (.bool true) ∧ Below W.heap.size W W' := by
  obtain ⟨h0, h1⟩ := wf_u hx
  have C1 := hide (of_any x h0 h1)
  have C2 := hide (may_any x y z h0 h1)
  clear hx hy hz
  have nA := cv_new (ofV x) 23
  have zA := cv_size (ofV x)
  have rK : (cv (ofV x))[0]? = some (.int .i64 (ofV x).k) := rfl
  have rR : (cv (ofV x))[1]? = some (.int .i64 (ofV x).r) := rfl
  cases hC : isC x with
  | false =>
    rw [show mayE x y z = 31 by simp [mayE, hC]] at C2
    rw [hC] at C1
    clear hC
    generalize (ofV x).k = k at *
    generalize (ofV x).r = r at *
    generalize cv (ofV x) = A at *
    go_enter Try.func4, Try.ntmps4
    go_wp2_with fail
    refine (shown7_any _).mono ?_
    rintro e w1 ⟨rfl, hb⟩
    have O := hide ((Own.start W).call hb)
    clear hb
    go_wp2_with fail
    refine (unhide C1 _).mono ?_
    rintro e w2 ⟨rfl, hb⟩
    replace O := hide (((unhide O).call hb).alloc (.cells A 23))
    clear hb
    go_wp2_with fail
    refine (unhide C2 _).mono ?_
    rintro e w3 ⟨rfl, hb⟩
    replace O := hide ((unhide O).call hb)
    clear hb
    have k0 : w3.cell? ⟨w2.heap.size, 0, none⟩ = some (.int .i64 k) := by rw [cell_of_block ((unhide O).at w2.heap.size (.cells A 23) (by simp))]; exact rK
    have k1 : w3.cell? ⟨w2.heap.size, 1, none⟩ = some (.int .i64 r) := by rw [cell_of_block ((unhide O).at w2.heap.size (.cells A 23) (by simp))]; exact rR
    go_wp2_with fail
    go_ret
    exact ⟨rfl, (unhide O).below⟩
  | true =>
    have hb := ofC_bd x h0
    rw [← ofV_is x hC] at hb
    have hM : ∀ q, mayE x y q = if (ofV x).k = y then (if hasI (ofV x).r q then 0 else 32) else 31 := fun q => by
      unfold mayE; rw [hC, ofV_is x hC]; simp
    have C3 := hide (may_any x y (ofV x).r h0 h1)
    have C4 := hide (may_any x y 0 h0 h1)
    have ho := has_or (ofV x).r z ⟨by omega, by omega⟩
    rw [hM] at C2 C3 C4
    rw [has_refl] at C3
    rw [has_zero] at C4
    rw [hC] at C1
    clear hC hM hb
    generalize (ofV x).k = k at *
    generalize (ofV x).r = r at *
    generalize cv (ofV x) = A at *
    by_cases hk : k = y
    · rw [if_pos hk, if_pos rfl] at C3 C4
      rw [if_pos hk] at C2
      subst hk
      by_cases z0 : 0 ≤ z
      · by_cases z1 : z ≤ 15
        · cases hh : hasI r z with
          | false =>
            rw [hh] at ho C2
            rw [if_neg (by simp)] at C2
            clear hh
            go_enter Try.func4, Try.ntmps4
            go_wp2_with fail
            refine (shown7_any _).mono ?_
            rintro e w1 ⟨rfl, hb⟩
            have O := hide ((Own.start W).call hb)
            clear hb
            go_wp2_with fail
            refine (unhide C1 _).mono ?_
            rintro e w2 ⟨rfl, hb⟩
            replace O := hide (((unhide O).call hb).alloc (.cells A 23))
            clear hb
            go_wp2_with fail
            refine (unhide C2 _).mono ?_
            rintro e w3 ⟨rfl, hb⟩
            replace O := hide ((unhide O).call hb)
            clear hb
            have k0 : w3.cell? ⟨w2.heap.size, 0, none⟩ = some (.int .i64 k) := by rw [cell_of_block ((unhide O).at w2.heap.size (.cells A 23) (by simp))]; exact rK
            have k1 : w3.cell? ⟨w2.heap.size, 1, none⟩ = some (.int .i64 r) := by rw [cell_of_block ((unhide O).at w2.heap.size (.cells A 23) (by simp))]; exact rR
            go_wp2_with fail
            refine (unhide C3 _).mono ?_
            rintro e w4 ⟨rfl, hb⟩
            replace O := hide ((unhide O).call hb)
            clear hb k0 k1
            have k1 : w4.cell? ⟨w2.heap.size, 1, none⟩ = some (.int .i64 r) := by rw [cell_of_block ((unhide O).at w2.heap.size (.cells A 23) (by simp))]; exact rR
            go_wp2_with fail
            refine (unhide C4 _).mono ?_
            rintro e w5 ⟨rfl, hb⟩
            replace O := hide ((unhide O).call hb)
            clear hb k1
            have k1 : w5.cell? ⟨w2.heap.size, 1, none⟩ = some (.int .i64 r) := by rw [cell_of_block ((unhide O).at w2.heap.size (.cells A 23) (by simp))]; exact rR
            go_wp2_with fail
            go_ret
            exact ⟨rfl, (unhide O).below⟩
          | true =>
            rw [hh] at ho C2
            rw [if_pos rfl] at C2
            clear hh
            go_enter Try.func4, Try.ntmps4
            go_wp2_with fail
            refine (shown7_any _).mono ?_
            rintro e w1 ⟨rfl, hb⟩
            have O := hide ((Own.start W).call hb)
            clear hb
            go_wp2_with fail
            refine (unhide C1 _).mono ?_
            rintro e w2 ⟨rfl, hb⟩
            replace O := hide (((unhide O).call hb).alloc (.cells A 23))
            clear hb
            go_wp2_with fail
            refine (unhide C2 _).mono ?_
            rintro e w3 ⟨rfl, hb⟩
            replace O := hide ((unhide O).call hb)
            clear hb
            have k0 : w3.cell? ⟨w2.heap.size, 0, none⟩ = some (.int .i64 k) := by rw [cell_of_block ((unhide O).at w2.heap.size (.cells A 23) (by simp))]; exact rK
            have k1 : w3.cell? ⟨w2.heap.size, 1, none⟩ = some (.int .i64 r) := by rw [cell_of_block ((unhide O).at w2.heap.size (.cells A 23) (by simp))]; exact rR
            go_wp2_with fail
            refine (unhide C3 _).mono ?_
            rintro e w4 ⟨rfl, hb⟩
            replace O := hide ((unhide O).call hb)
            clear hb k0 k1
            have k1 : w4.cell? ⟨w2.heap.size, 1, none⟩ = some (.int .i64 r) := by rw [cell_of_block ((unhide O).at w2.heap.size (.cells A 23) (by simp))]; exact rR
            go_wp2_with fail
            refine (unhide C4 _).mono ?_
            rintro e w5 ⟨rfl, hb⟩
            replace O := hide ((unhide O).call hb)
            clear hb k1
            have k1 : w5.cell? ⟨w2.heap.size, 1, none⟩ = some (.int .i64 r) := by rw [cell_of_block ((unhide O).at w2.heap.size (.cells A 23) (by simp))]; exact rR
            go_wp2_with fail
            go_ret
            exact ⟨rfl, (unhide O).below⟩
        · clear ho
          generalize (if hasI r z = true then (0 : Int) else 32) = E at *
          go_enter Try.func4, Try.ntmps4
          go_wp2_with fail
          refine (shown7_any _).mono ?_
          rintro e w1 ⟨rfl, hb⟩
          have O := hide ((Own.start W).call hb)
          clear hb
          go_wp2_with fail
          refine (unhide C1 _).mono ?_
          rintro e w2 ⟨rfl, hb⟩
          replace O := hide (((unhide O).call hb).alloc (.cells A 23))
          clear hb
          go_wp2_with fail
          refine (unhide C2 _).mono ?_
          rintro e w3 ⟨rfl, hb⟩
          replace O := hide ((unhide O).call hb)
          clear hb
          have k0 : w3.cell? ⟨w2.heap.size, 0, none⟩ = some (.int .i64 k) := by rw [cell_of_block ((unhide O).at w2.heap.size (.cells A 23) (by simp))]; exact rK
          have k1 : w3.cell? ⟨w2.heap.size, 1, none⟩ = some (.int .i64 r) := by rw [cell_of_block ((unhide O).at w2.heap.size (.cells A 23) (by simp))]; exact rR
          go_wp2_with fail
          refine (unhide C3 _).mono ?_
          rintro e w4 ⟨rfl, hb⟩
          replace O := hide ((unhide O).call hb)
          clear hb k0 k1
          have k1 : w4.cell? ⟨w2.heap.size, 1, none⟩ = some (.int .i64 r) := by rw [cell_of_block ((unhide O).at w2.heap.size (.cells A 23) (by simp))]; exact rR
          go_wp2_with fail
          refine (unhide C4 _).mono ?_
          rintro e w5 ⟨rfl, hb⟩
          replace O := hide ((unhide O).call hb)
          clear hb k1
          have k1 : w5.cell? ⟨w2.heap.size, 1, none⟩ = some (.int .i64 r) := by rw [cell_of_block ((unhide O).at w2.heap.size (.cells A 23) (by simp))]; exact rR
          go_wp2_with fail
          go_ret
          exact ⟨rfl, (unhide O).below⟩
      · clear ho
        generalize (if hasI r z = true then (0 : Int) else 32) = E at *
        go_enter Try.func4, Try.ntmps4
        go_wp2_with fail
        refine (shown7_any _).mono ?_
        rintro e w1 ⟨rfl, hb⟩
        have O := hide ((Own.start W).call hb)
        clear hb
        go_wp2_with fail
        refine (unhide C1 _).mono ?_
        rintro e w2 ⟨rfl, hb⟩
        replace O := hide (((unhide O).call hb).alloc (.cells A 23))
        clear hb
        go_wp2_with fail
        refine (unhide C2 _).mono ?_
        rintro e w3 ⟨rfl, hb⟩
        replace O := hide ((unhide O).call hb)
        clear hb
        have k0 : w3.cell? ⟨w2.heap.size, 0, none⟩ = some (.int .i64 k) := by rw [cell_of_block ((unhide O).at w2.heap.size (.cells A 23) (by simp))]; exact rK
        have k1 : w3.cell? ⟨w2.heap.size, 1, none⟩ = some (.int .i64 r) := by rw [cell_of_block ((unhide O).at w2.heap.size (.cells A 23) (by simp))]; exact rR
        go_wp2_with fail
        refine (unhide C3 _).mono ?_
        rintro e w4 ⟨rfl, hb⟩
        replace O := hide ((unhide O).call hb)
        clear hb k0 k1
        have k1 : w4.cell? ⟨w2.heap.size, 1, none⟩ = some (.int .i64 r) := by rw [cell_of_block ((unhide O).at w2.heap.size (.cells A 23) (by simp))]; exact rR
        go_wp2_with fail
        refine (unhide C4 _).mono ?_
        rintro e w5 ⟨rfl, hb⟩
        replace O := hide ((unhide O).call hb)
        clear hb k1
        have k1 : w5.cell? ⟨w2.heap.size, 1, none⟩ = some (.int .i64 r) := by rw [cell_of_block ((unhide O).at w2.heap.size (.cells A 23) (by simp))]; exact rR
        go_wp2_with fail
        go_ret
        exact ⟨rfl, (unhide O).below⟩
    · rw [if_neg hk] at C2
      have hk' : (k != y) = true := by simpa using hk
      clear hk C3 C4 ho
      go_enter Try.func4, Try.ntmps4
      go_wp2_with fail
      refine (shown7_any _).mono ?_
      rintro e w1 ⟨rfl, hb⟩
      have O := hide ((Own.start W).call hb)
      clear hb
      go_wp2_with fail
      refine (unhide C1 _).mono ?_
      rintro e w2 ⟨rfl, hb⟩
      replace O := hide (((unhide O).call hb).alloc (.cells A 23))
      clear hb
      go_wp2_with fail
      refine (unhide C2 _).mono ?_
      rintro e w3 ⟨rfl, hb⟩
      replace O := hide ((unhide O).call hb)
      clear hb
      have k0 : w3.cell? ⟨w2.heap.size, 0, none⟩ = some (.int .i64 k) := by rw [cell_of_block ((unhide O).at w2.heap.size (.cells A 23) (by simp))]; exact rK
      have k1 : w3.cell? ⟨w2.heap.size, 1, none⟩ = some (.int .i64 r) := by rw [cell_of_block ((unhide O).at w2.heap.size (.cells A 23) (by simp))]; exact rR
      go_wp2_with fail
      go_ret
      exact ⟨rfl, (unhide O).below⟩

set_option maxRecDepth 100000 in
theorem lifted (os : Os) (started : os.Started) (H : Type) (enc : TypeId × Value → H) :
    ReturnsInHanded {} Try.checked os 4 .any (Rows.capsKindsSpec.pre6 enc Try.prog Try.f4 Rows.capsKindsRow.domain false) (Rows.capsKindsSpec.post enc Try.prog Try.f4 false true false false) := by
  refine law_frame (C := Try.checked) (ts := [25, 3, 3]) (tb := 4) (by kernel_rfl) started (by kernel_rfl) Try.func4 Try.params4 (by kernel_rfl) Try.underlying4 (by kernel_rfl) (by kernel_rfl) rfl ?_
    (ChangeSpec.witness6 (enc := enc) (C := Try.checked) false ⟨#[], #[.int .u64 0, .int .i64 0, .int .i64 0], []⟩ 8 (by kernel_rfl) (by kernel_rfl) (by kernel_rfl) (by kernel_rfl)) ?_
  · intro ds hd
    match ds, hd with
    | [d0, d1, d2], _ => rfl
  · intro W base args ds p hval hA
    obtain ⟨v0, vs0, d0, ds0, p0, q0, hargs, rfl, rfl, h0, r0⟩ := trodAll_cons hA
    obtain ⟨v1, vs1, d1, ds1, p1, q1, rfl, rfl, rfl, h1, r1⟩ := trodAll_cons r0
    obtain ⟨v2, vs2, d2, ds2, p2, q2, rfl, rfl, rfl, h2, r2⟩ := trodAll_cons r1
    obtain ⟨rfl, rfl, rfl⟩ := trodAll_nil r2
    obtain rfl : args = #[v0, v1, v2] := by cases args; simp_all
    obtain ⟨x, rfl, rfl, rfl, wx⟩ := open_int Try.underlying25 (hval 0 25 v0 rfl rfl) h0
    obtain ⟨y, rfl, rfl, rfl, wy⟩ := open_int Try.underlying3 (hval 1 3 v1 rfl rfl) h1
    obtain ⟨z, rfl, rfl, rfl, wz⟩ := open_int Try.underlying3 (hval 2 3 v2 rfl rfl) h2
    exact walk x y z wx wy wz W

theorem over : Rows.capsKindsRow.holds Try.pinned (OpenSpec.ofChange Rows.capsKindsSpec) :=
  OpenClaim.holds_of_wide 4 Try.f4 rfl rfl rfl rfl rfl rfl rfl ⟨rfl, rfl, rfl, rfl, rfl⟩ rfl rfl rfl rfl rfl (by kernel_rfl) Try.func4 (by kernel_rfl)
    (of_decide_eq_true (by kernel_rfl)) (by unfold Func.isWrapper; first | (rw [if_pos (by decide +kernel)]; kernel_rfl) | (rw [if_neg (by decide +kernel)]; exact ⟨rfl, rfl⟩))
    (fun os started H enc _ => lifted os started H enc)

end Go.Proofs.Ytbgdmapmbjhbiab.capsKinds
namespace Go.Proofs.Ytbgdmapmbjhbiab
theorem capsKinds_holds : Rows.CapsKindsSaid := capsKinds.over
end Go.Proofs.Ytbgdmapmbjhbiab
