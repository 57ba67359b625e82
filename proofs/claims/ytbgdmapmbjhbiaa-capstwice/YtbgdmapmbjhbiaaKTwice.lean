
/-
  For every word, two rights and two badges, CapsTwice returns true and leaves its arguments as they were: to diminish twice is as once, by the rights that both have, and the first badge stays. No condition.
-/
import Derived.Test.YtbgdmapmbjhbiaaKShown
import Derived.Test.YtbgdmapmbjhbiaaKLess
namespace Go.Proofs.Ytbgdmapmbjhbiaa.capsTwice
open Go.ChangeShapes Go.WideShapes Go.ChangeAt Go.RowKit Go.Joins
set_option linter.unusedVariables false
set_option linter.unusedSimpArgs false

set_option maxHeartbeats 4000000 in
set_option maxRecDepth 100000 in
theorem walk4 (x x1 x2 y1 y2 : Int) (h0 : 0 ≤ x) (h1 : x ≤ 18446744073709551615) (W : World) :
    Calls Try.prog 6 #[.int .u64 x, .agg #[.int .i64 x1, .int .i64 x2], .agg #[.int .i64 y1, .int .i64 y2]] W fun e W' => e = .returned (.bool true) ∧ Below W.heap.size W W' := by
  have C1 := hide (dim_any x x1 y1 h0 h1)
  have C2 := hide (dim_any (dimV x x1 y1) x2 y2 (dimV_bd x x1 y1).1 (dimV_bd x x1 y1).2)
  by_cases e1 : dimE x x1 y1 = 0
  · by_cases e2 : dimE (dimV x x1 y1) x2 y2 = 0
    · obtain ⟨t1, t2⟩ := dim_twice e1 e2
      have C3 := hide (dim_any x (bits .and .i64 x1 x2) (if y1 = 0 then y2 else y1) h0 h1)
      rw [t1, t2] at C3
      rw [e2] at C2
      rw [e1] at C1
      generalize dimV (dimV x x1 y1) x2 y2 = V2 at *
      generalize dimV x x1 y1 = V1 at *
      have hv : (V2 == V2) = true := by simp
      clear e1 e2 t1 t2
      by_cases hy : y1 = 0
      · rw [if_pos hy] at C3
        have hy' : (y1 == 0) = true := by simpa using hy
        clear hy
        have O := hide (((Own.start W).alloc (.cells #[.int .i64 x1, .int .i64 x2] 35)).alloc (.cells #[.int .i64 y1, .int .i64 y2] 35))
        have g0 : (W.alloc (.cells #[.int .i64 x1, .int .i64 x2] 35)).heap.size = W.heap.size + 1 := by simp
        rw [g0] at O
        clear g0
        go_enter Try.func6, Try.ntmps6
        go_wp2_with fail
        refine (shown7_any _).mono ?_
        rintro e w1 ⟨rfl, hb⟩
        have O := hide ((unhide O).call hb)
        clear hb
        have a0 : w1.cell? ⟨W.heap.size, 0, none⟩ = some (.int .i64 x1) := by rw [cell_of_block ((unhide O).at W.heap.size (.cells #[.int .i64 x1, .int .i64 x2] 35) (by simp))]; rfl
        have a1 : w1.cell? ⟨W.heap.size, 1, none⟩ = some (.int .i64 x2) := by rw [cell_of_block ((unhide O).at W.heap.size (.cells #[.int .i64 x1, .int .i64 x2] 35) (by simp))]; rfl
        have b0 : w1.cell? ⟨W.heap.size + 1, 0, none⟩ = some (.int .i64 y1) := by rw [cell_of_block ((unhide O).at (W.heap.size + 1) (.cells #[.int .i64 y1, .int .i64 y2] 35) (by simp))]; rfl
        have b1 : w1.cell? ⟨W.heap.size + 1, 1, none⟩ = some (.int .i64 y2) := by rw [cell_of_block ((unhide O).at (W.heap.size + 1) (.cells #[.int .i64 y1, .int .i64 y2] 35) (by simp))]; rfl
        go_wp2_with fail
        refine (unhide C1 _).mono ?_
        rintro e w2 ⟨rfl, hb⟩
        have O := hide ((unhide O).call hb)
        clear hb a0 a1 b0 b1
        have a0 : w2.cell? ⟨W.heap.size, 0, none⟩ = some (.int .i64 x1) := by rw [cell_of_block ((unhide O).at W.heap.size (.cells #[.int .i64 x1, .int .i64 x2] 35) (by simp))]; rfl
        have a1 : w2.cell? ⟨W.heap.size, 1, none⟩ = some (.int .i64 x2) := by rw [cell_of_block ((unhide O).at W.heap.size (.cells #[.int .i64 x1, .int .i64 x2] 35) (by simp))]; rfl
        have b0 : w2.cell? ⟨W.heap.size + 1, 0, none⟩ = some (.int .i64 y1) := by rw [cell_of_block ((unhide O).at (W.heap.size + 1) (.cells #[.int .i64 y1, .int .i64 y2] 35) (by simp))]; rfl
        have b1 : w2.cell? ⟨W.heap.size + 1, 1, none⟩ = some (.int .i64 y2) := by rw [cell_of_block ((unhide O).at (W.heap.size + 1) (.cells #[.int .i64 y1, .int .i64 y2] 35) (by simp))]; rfl
        go_wp2_with fail
        refine (unhide C2 _).mono ?_
        rintro e w3 ⟨rfl, hb⟩
        have O := hide ((unhide O).call hb)
        clear hb a0 a1 b0 b1
        have a0 : w3.cell? ⟨W.heap.size, 0, none⟩ = some (.int .i64 x1) := by rw [cell_of_block ((unhide O).at W.heap.size (.cells #[.int .i64 x1, .int .i64 x2] 35) (by simp))]; rfl
        have a1 : w3.cell? ⟨W.heap.size, 1, none⟩ = some (.int .i64 x2) := by rw [cell_of_block ((unhide O).at W.heap.size (.cells #[.int .i64 x1, .int .i64 x2] 35) (by simp))]; rfl
        have b0 : w3.cell? ⟨W.heap.size + 1, 0, none⟩ = some (.int .i64 y1) := by rw [cell_of_block ((unhide O).at (W.heap.size + 1) (.cells #[.int .i64 y1, .int .i64 y2] 35) (by simp))]; rfl
        have b1 : w3.cell? ⟨W.heap.size + 1, 1, none⟩ = some (.int .i64 y2) := by rw [cell_of_block ((unhide O).at (W.heap.size + 1) (.cells #[.int .i64 y1, .int .i64 y2] 35) (by simp))]; rfl
        go_wp2_with fail
        refine (unhide C3 _).mono ?_
        rintro e w4 ⟨rfl, hb⟩
        have O := hide ((unhide O).call hb)
        clear hb
        go_wp2_with fail
        go_ret
        exact ⟨rfl, (unhide O).below⟩
      · rw [if_neg hy] at C3
        have hy' : (y1 == 0) = false := by simpa using hy
        clear hy
        have O := hide (((Own.start W).alloc (.cells #[.int .i64 x1, .int .i64 x2] 35)).alloc (.cells #[.int .i64 y1, .int .i64 y2] 35))
        have g0 : (W.alloc (.cells #[.int .i64 x1, .int .i64 x2] 35)).heap.size = W.heap.size + 1 := by simp
        rw [g0] at O
        clear g0
        go_enter Try.func6, Try.ntmps6
        go_wp2_with fail
        refine (shown7_any _).mono ?_
        rintro e w1 ⟨rfl, hb⟩
        have O := hide ((unhide O).call hb)
        clear hb
        have a0 : w1.cell? ⟨W.heap.size, 0, none⟩ = some (.int .i64 x1) := by rw [cell_of_block ((unhide O).at W.heap.size (.cells #[.int .i64 x1, .int .i64 x2] 35) (by simp))]; rfl
        have a1 : w1.cell? ⟨W.heap.size, 1, none⟩ = some (.int .i64 x2) := by rw [cell_of_block ((unhide O).at W.heap.size (.cells #[.int .i64 x1, .int .i64 x2] 35) (by simp))]; rfl
        have b0 : w1.cell? ⟨W.heap.size + 1, 0, none⟩ = some (.int .i64 y1) := by rw [cell_of_block ((unhide O).at (W.heap.size + 1) (.cells #[.int .i64 y1, .int .i64 y2] 35) (by simp))]; rfl
        have b1 : w1.cell? ⟨W.heap.size + 1, 1, none⟩ = some (.int .i64 y2) := by rw [cell_of_block ((unhide O).at (W.heap.size + 1) (.cells #[.int .i64 y1, .int .i64 y2] 35) (by simp))]; rfl
        go_wp2_with fail
        refine (unhide C1 _).mono ?_
        rintro e w2 ⟨rfl, hb⟩
        have O := hide ((unhide O).call hb)
        clear hb a0 a1 b0 b1
        have a0 : w2.cell? ⟨W.heap.size, 0, none⟩ = some (.int .i64 x1) := by rw [cell_of_block ((unhide O).at W.heap.size (.cells #[.int .i64 x1, .int .i64 x2] 35) (by simp))]; rfl
        have a1 : w2.cell? ⟨W.heap.size, 1, none⟩ = some (.int .i64 x2) := by rw [cell_of_block ((unhide O).at W.heap.size (.cells #[.int .i64 x1, .int .i64 x2] 35) (by simp))]; rfl
        have b0 : w2.cell? ⟨W.heap.size + 1, 0, none⟩ = some (.int .i64 y1) := by rw [cell_of_block ((unhide O).at (W.heap.size + 1) (.cells #[.int .i64 y1, .int .i64 y2] 35) (by simp))]; rfl
        have b1 : w2.cell? ⟨W.heap.size + 1, 1, none⟩ = some (.int .i64 y2) := by rw [cell_of_block ((unhide O).at (W.heap.size + 1) (.cells #[.int .i64 y1, .int .i64 y2] 35) (by simp))]; rfl
        go_wp2_with fail
        refine (unhide C2 _).mono ?_
        rintro e w3 ⟨rfl, hb⟩
        have O := hide ((unhide O).call hb)
        clear hb a0 a1 b0 b1
        have a0 : w3.cell? ⟨W.heap.size, 0, none⟩ = some (.int .i64 x1) := by rw [cell_of_block ((unhide O).at W.heap.size (.cells #[.int .i64 x1, .int .i64 x2] 35) (by simp))]; rfl
        have a1 : w3.cell? ⟨W.heap.size, 1, none⟩ = some (.int .i64 x2) := by rw [cell_of_block ((unhide O).at W.heap.size (.cells #[.int .i64 x1, .int .i64 x2] 35) (by simp))]; rfl
        have b0 : w3.cell? ⟨W.heap.size + 1, 0, none⟩ = some (.int .i64 y1) := by rw [cell_of_block ((unhide O).at (W.heap.size + 1) (.cells #[.int .i64 y1, .int .i64 y2] 35) (by simp))]; rfl
        have b1 : w3.cell? ⟨W.heap.size + 1, 1, none⟩ = some (.int .i64 y2) := by rw [cell_of_block ((unhide O).at (W.heap.size + 1) (.cells #[.int .i64 y1, .int .i64 y2] 35) (by simp))]; rfl
        go_wp2_with fail
        refine (unhide C3 _).mono ?_
        rintro e w4 ⟨rfl, hb⟩
        have O := hide ((unhide O).call hb)
        clear hb
        go_wp2_with fail
        go_ret
        exact ⟨rfl, (unhide O).below⟩
    · have e2' : (dimE (dimV x x1 y1) x2 y2 != 0) = true := by simpa using e2
      rw [e1] at C1
      generalize dimE (dimV x x1 y1) x2 y2 = E2 at *
      generalize dimV (dimV x x1 y1) x2 y2 = V2 at *
      generalize dimV x x1 y1 = V1 at *
      clear e1 e2
      have O := hide (((Own.start W).alloc (.cells #[.int .i64 x1, .int .i64 x2] 35)).alloc (.cells #[.int .i64 y1, .int .i64 y2] 35))
      have g0 : (W.alloc (.cells #[.int .i64 x1, .int .i64 x2] 35)).heap.size = W.heap.size + 1 := by simp
      rw [g0] at O
      clear g0
      go_enter Try.func6, Try.ntmps6
      go_wp2_with fail
      refine (shown7_any _).mono ?_
      rintro e w1 ⟨rfl, hb⟩
      have O := hide ((unhide O).call hb)
      clear hb
      have a0 : w1.cell? ⟨W.heap.size, 0, none⟩ = some (.int .i64 x1) := by rw [cell_of_block ((unhide O).at W.heap.size (.cells #[.int .i64 x1, .int .i64 x2] 35) (by simp))]; rfl
      have a1 : w1.cell? ⟨W.heap.size, 1, none⟩ = some (.int .i64 x2) := by rw [cell_of_block ((unhide O).at W.heap.size (.cells #[.int .i64 x1, .int .i64 x2] 35) (by simp))]; rfl
      have b0 : w1.cell? ⟨W.heap.size + 1, 0, none⟩ = some (.int .i64 y1) := by rw [cell_of_block ((unhide O).at (W.heap.size + 1) (.cells #[.int .i64 y1, .int .i64 y2] 35) (by simp))]; rfl
      have b1 : w1.cell? ⟨W.heap.size + 1, 1, none⟩ = some (.int .i64 y2) := by rw [cell_of_block ((unhide O).at (W.heap.size + 1) (.cells #[.int .i64 y1, .int .i64 y2] 35) (by simp))]; rfl
      go_wp2_with fail
      refine (unhide C1 _).mono ?_
      rintro e w2 ⟨rfl, hb⟩
      have O := hide ((unhide O).call hb)
      clear hb a0 a1 b0 b1
      have a0 : w2.cell? ⟨W.heap.size, 0, none⟩ = some (.int .i64 x1) := by rw [cell_of_block ((unhide O).at W.heap.size (.cells #[.int .i64 x1, .int .i64 x2] 35) (by simp))]; rfl
      have a1 : w2.cell? ⟨W.heap.size, 1, none⟩ = some (.int .i64 x2) := by rw [cell_of_block ((unhide O).at W.heap.size (.cells #[.int .i64 x1, .int .i64 x2] 35) (by simp))]; rfl
      have b0 : w2.cell? ⟨W.heap.size + 1, 0, none⟩ = some (.int .i64 y1) := by rw [cell_of_block ((unhide O).at (W.heap.size + 1) (.cells #[.int .i64 y1, .int .i64 y2] 35) (by simp))]; rfl
      have b1 : w2.cell? ⟨W.heap.size + 1, 1, none⟩ = some (.int .i64 y2) := by rw [cell_of_block ((unhide O).at (W.heap.size + 1) (.cells #[.int .i64 y1, .int .i64 y2] 35) (by simp))]; rfl
      go_wp2_with fail
      refine (unhide C2 _).mono ?_
      rintro e w3 ⟨rfl, hb⟩
      have O := hide ((unhide O).call hb)
      clear hb a0 a1 b0 b1
      have a0 : w3.cell? ⟨W.heap.size, 0, none⟩ = some (.int .i64 x1) := by rw [cell_of_block ((unhide O).at W.heap.size (.cells #[.int .i64 x1, .int .i64 x2] 35) (by simp))]; rfl
      have a1 : w3.cell? ⟨W.heap.size, 1, none⟩ = some (.int .i64 x2) := by rw [cell_of_block ((unhide O).at W.heap.size (.cells #[.int .i64 x1, .int .i64 x2] 35) (by simp))]; rfl
      have b0 : w3.cell? ⟨W.heap.size + 1, 0, none⟩ = some (.int .i64 y1) := by rw [cell_of_block ((unhide O).at (W.heap.size + 1) (.cells #[.int .i64 y1, .int .i64 y2] 35) (by simp))]; rfl
      have b1 : w3.cell? ⟨W.heap.size + 1, 1, none⟩ = some (.int .i64 y2) := by rw [cell_of_block ((unhide O).at (W.heap.size + 1) (.cells #[.int .i64 y1, .int .i64 y2] 35) (by simp))]; rfl
      go_wp2_with fail
      go_ret
      exact ⟨rfl, (unhide O).below⟩
  · have e1' : (dimE x x1 y1 != 0) = true := by simpa using e1
    generalize dimE (dimV x x1 y1) x2 y2 = E2 at *
    generalize dimV (dimV x x1 y1) x2 y2 = V2 at *
    generalize dimE x x1 y1 = E1 at *
    generalize dimV x x1 y1 = V1 at *
    clear e1
    have O := hide (((Own.start W).alloc (.cells #[.int .i64 x1, .int .i64 x2] 35)).alloc (.cells #[.int .i64 y1, .int .i64 y2] 35))
    have g0 : (W.alloc (.cells #[.int .i64 x1, .int .i64 x2] 35)).heap.size = W.heap.size + 1 := by simp
    rw [g0] at O
    clear g0
    go_enter Try.func6, Try.ntmps6
    go_wp2_with fail
    refine (shown7_any _).mono ?_
    rintro e w1 ⟨rfl, hb⟩
    have O := hide ((unhide O).call hb)
    clear hb
    have a0 : w1.cell? ⟨W.heap.size, 0, none⟩ = some (.int .i64 x1) := by rw [cell_of_block ((unhide O).at W.heap.size (.cells #[.int .i64 x1, .int .i64 x2] 35) (by simp))]; rfl
    have a1 : w1.cell? ⟨W.heap.size, 1, none⟩ = some (.int .i64 x2) := by rw [cell_of_block ((unhide O).at W.heap.size (.cells #[.int .i64 x1, .int .i64 x2] 35) (by simp))]; rfl
    have b0 : w1.cell? ⟨W.heap.size + 1, 0, none⟩ = some (.int .i64 y1) := by rw [cell_of_block ((unhide O).at (W.heap.size + 1) (.cells #[.int .i64 y1, .int .i64 y2] 35) (by simp))]; rfl
    have b1 : w1.cell? ⟨W.heap.size + 1, 1, none⟩ = some (.int .i64 y2) := by rw [cell_of_block ((unhide O).at (W.heap.size + 1) (.cells #[.int .i64 y1, .int .i64 y2] 35) (by simp))]; rfl
    go_wp2_with fail
    refine (unhide C1 _).mono ?_
    rintro e w2 ⟨rfl, hb⟩
    have O := hide ((unhide O).call hb)
    clear hb a0 a1 b0 b1
    have a0 : w2.cell? ⟨W.heap.size, 0, none⟩ = some (.int .i64 x1) := by rw [cell_of_block ((unhide O).at W.heap.size (.cells #[.int .i64 x1, .int .i64 x2] 35) (by simp))]; rfl
    have a1 : w2.cell? ⟨W.heap.size, 1, none⟩ = some (.int .i64 x2) := by rw [cell_of_block ((unhide O).at W.heap.size (.cells #[.int .i64 x1, .int .i64 x2] 35) (by simp))]; rfl
    have b0 : w2.cell? ⟨W.heap.size + 1, 0, none⟩ = some (.int .i64 y1) := by rw [cell_of_block ((unhide O).at (W.heap.size + 1) (.cells #[.int .i64 y1, .int .i64 y2] 35) (by simp))]; rfl
    have b1 : w2.cell? ⟨W.heap.size + 1, 1, none⟩ = some (.int .i64 y2) := by rw [cell_of_block ((unhide O).at (W.heap.size + 1) (.cells #[.int .i64 y1, .int .i64 y2] 35) (by simp))]; rfl
    go_wp2_with fail
    refine (unhide C2 _).mono ?_
    rintro e w3 ⟨rfl, hb⟩
    have O := hide ((unhide O).call hb)
    clear hb a0 a1 b0 b1
    have a0 : w3.cell? ⟨W.heap.size, 0, none⟩ = some (.int .i64 x1) := by rw [cell_of_block ((unhide O).at W.heap.size (.cells #[.int .i64 x1, .int .i64 x2] 35) (by simp))]; rfl
    have a1 : w3.cell? ⟨W.heap.size, 1, none⟩ = some (.int .i64 x2) := by rw [cell_of_block ((unhide O).at W.heap.size (.cells #[.int .i64 x1, .int .i64 x2] 35) (by simp))]; rfl
    have b0 : w3.cell? ⟨W.heap.size + 1, 0, none⟩ = some (.int .i64 y1) := by rw [cell_of_block ((unhide O).at (W.heap.size + 1) (.cells #[.int .i64 y1, .int .i64 y2] 35) (by simp))]; rfl
    have b1 : w3.cell? ⟨W.heap.size + 1, 1, none⟩ = some (.int .i64 y2) := by rw [cell_of_block ((unhide O).at (W.heap.size + 1) (.cells #[.int .i64 y1, .int .i64 y2] 35) (by simp))]; rfl
    go_wp2_with fail
    go_ret
    exact ⟨rfl, (unhide O).below⟩
theorem walk (x : Int) (p q : Int × Int) (hx : (Lit.int .u64 x).wf = true) (hp : IsTwo p) (hq : IsTwo q) (W : World) :
    Calls Try.prog 6 #[.int .u64 x, .agg #[.int .i64 p.1, .int .i64 p.2], .agg #[.int .i64 q.1, .int .i64 q.2]] W fun e W' => e = .returned (.bool true) ∧ Below W.heap.size W W' :=
  walk4 x p.1 p.2 q.1 q.2 (wf_u hx).1 (wf_u hx).2 W

set_option maxRecDepth 100000 in
theorem lifted (os : Os) (started : os.Started) (H : Type) (enc : TypeId × Value → H) :
    ReturnsInHanded {} Try.checked os 6 .any (Rows.capsTwiceSpec.pre6 enc Try.prog Try.f6 Rows.capsTwiceRow.domain false) (Rows.capsTwiceSpec.post enc Try.prog Try.f6 false true false false) := by
  refine law_frame (C := Try.checked) (ts := [24, 35, 35]) (tb := 4) (by kernel_rfl) started (by kernel_rfl) Try.func6 Try.params6 (by kernel_rfl) Try.underlying4 (by kernel_rfl) (by kernel_rfl) rfl ?_
    (ChangeSpec.witness6 (enc := enc) (C := Try.checked) false ⟨#[], #[.int .u64 0, .agg #[.int .i64 0, .int .i64 0], .agg #[.int .i64 0, .int .i64 0]], []⟩ 8 (by kernel_rfl) (by kernel_rfl) (by kernel_rfl) (by kernel_rfl)) ?_
  · intro ds hd
    match ds, hd with
    | [d0, d1, d2], _ => rfl
  · intro W base args ds p hval hA
    obtain ⟨v0, vs0, d0, ds0, p0, q0, hargs, rfl, rfl, h0, r0⟩ := trodAll_cons hA
    obtain ⟨v1, vs1, d1, ds1, p1, q1, rfl, rfl, rfl, h1, r1⟩ := trodAll_cons r0
    obtain ⟨v2, vs2, d2, ds2, p2, q2, rfl, rfl, rfl, h2, r2⟩ := trodAll_cons r1
    obtain ⟨rfl, rfl, rfl⟩ := trodAll_nil r2
    obtain rfl : args = #[v0, v1, v2] := by cases args; simp_all
    obtain ⟨x, rfl, rfl, rfl, wx⟩ := open_int Try.underlying24 (hval 0 24 v0 rfl rfl) h0
    obtain ⟨p, rfl, hp⟩ := open_two (hval 1 35 v1 rfl rfl) h1
    obtain ⟨q, rfl, hq⟩ := open_two (hval 2 35 v2 rfl rfl) h2
    exact walk x p q wx hp hq W

theorem over : Rows.capsTwiceRow.holds Try.pinned (OpenSpec.ofChange Rows.capsTwiceSpec) :=
  OpenClaim.holds_of_wide 6 Try.f6 rfl rfl rfl rfl rfl rfl rfl ⟨rfl, rfl, rfl, rfl, rfl⟩ rfl rfl rfl rfl rfl (by kernel_rfl) Try.func6 (by kernel_rfl)
    (of_decide_eq_true (by kernel_rfl)) (by unfold Func.isWrapper; first | (rw [if_pos (by decide +kernel)]; kernel_rfl) | (rw [if_neg (by decide +kernel)]; exact ⟨rfl, rfl⟩))
    (fun os started H enc _ => lifted os started H enc)

end Go.Proofs.Ytbgdmapmbjhbiaa.capsTwice
namespace Go.Proofs.Ytbgdmapmbjhbiaa
theorem capsTwice_holds : Rows.CapsTwiceSaid := capsTwice.over
end Go.Proofs.Ytbgdmapmbjhbiaa
