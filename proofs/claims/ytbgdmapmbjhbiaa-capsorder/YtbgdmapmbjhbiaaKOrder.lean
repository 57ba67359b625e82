
/-
  For every three words, kind and rights, CapsOrder returns true and leaves its arguments as they were: each is within itself, two that are within one another have the same rights, what is within what is within a third is within that, and who is within another one may no more. No condition.
-/
import Derived.Test.YtbgdmapmbjhbiaaKShown
import Derived.Test.YtbgdmapmbjhbiaaKIn
import Derived.Test.YtbgdmapmbjhbiaaKLess
namespace Go.Proofs.Ytbgdmapmbjhbiaa.capsOrder
open Go.ChangeShapes Go.WideShapes Go.ChangeAt Go.RowKit Go.Joins
set_option linter.unusedVariables false
set_option linter.unusedSimpArgs false

/-- What the calls answer, and nothing more of them. -/
structure Ans (a b c x y : Int) (A B : Array Value) (p q P Q R S : Bool) (E0 E1 ra rb : Int) : Prop where
  CO1 : Hid (∀ w : World, Calls Try.prog 12 #[.int .u64 a] w fun e w' => e = .returned (.tuple #[.agg A, .bool p]) ∧ Below w.heap.size w w')
  CO2 : Hid (∀ w : World, Calls Try.prog 12 #[.int .u64 b] w fun e w' => e = .returned (.tuple #[.agg B, .bool q]) ∧ Below w.heap.size w w')
  CI00 : Hid (∀ w : World, Calls Try.prog 16 #[.int .u64 a, .int .u64 a] w fun e w' => e = .returned (.bool p) ∧ Below w.heap.size w w')
  CI01 : Hid (∀ w : World, Calls Try.prog 16 #[.int .u64 a, .int .u64 b] w fun e w' => e = .returned (.bool P) ∧ Below w.heap.size w w')
  CI12 : Hid (∀ w : World, Calls Try.prog 16 #[.int .u64 b, .int .u64 c] w fun e w' => e = .returned (.bool Q) ∧ Below w.heap.size w w')
  CI02 : Hid (∀ w : World, Calls Try.prog 16 #[.int .u64 a, .int .u64 c] w fun e w' => e = .returned (.bool R) ∧ Below w.heap.size w w')
  CI10 : Hid (∀ w : World, Calls Try.prog 16 #[.int .u64 b, .int .u64 a] w fun e w' => e = .returned (.bool S) ∧ Below w.heap.size w w')
  CM0 : Hid (∀ w : World, Calls Try.prog 17 #[.int .u64 a, .int .i64 x, .int .i64 y] w fun e w' => e = .returned (.int .i64 E0) ∧ Below w.heap.size w w')
  CM1 : Hid (∀ w : World, Calls Try.prog 17 #[.int .u64 b, .int .i64 x, .int .i64 y] w fun e w' => e = .returned (.int .i64 E1) ∧ Below w.heap.size w w')
  nA : ∀ (W : World) (C : Array Value), C.size = 5 → Sem.run Try.prog (storeCells ⟨W.heap.size, 0, none⟩ A.toList) (W.alloc (.cells C 23)) = .ok () (W.alloc (.cells A 23))
  zA : A.size = 5
  nB : ∀ (W : World) (C : Array Value), C.size = 5 → Sem.run Try.prog (storeCells ⟨W.heap.size, 0, none⟩ B.toList) (W.alloc (.cells C 23)) = .ok () (W.alloc (.cells B 23))
  zB : B.size = 5
  rA : A[1]? = some (.int .i64 ra)
  rB : B[1]? = some (.int .i64 rb)
theorem ans (a b c x y : Int) (h0 : 0 ≤ a ∧ a ≤ 18446744073709551615) (h1 : 0 ≤ b ∧ b ≤ 18446744073709551615) (h2 : 0 ≤ c ∧ c ≤ 18446744073709551615) : Ans a b c x y (cv (ofV a)) (cv (ofV b)) (isC a) (isC b) (inB a b) (inB b c) (inB a c) (inB b a) (mayE a x y) (mayE b x y) (ofV a).r (ofV b).r where
  CO1 := of_any a h0.1 h0.2
  CO2 := of_any b h1.1 h1.2
  CI00 := by rw [← in_refl]; exact in_any a a h0.1 h0.2 h0.1 h0.2
  CI01 := in_any a b h0.1 h0.2 h1.1 h1.2
  CI12 := in_any b c h1.1 h1.2 h2.1 h2.2
  CI02 := in_any a c h0.1 h0.2 h2.1 h2.2
  CI10 := in_any b a h1.1 h1.2 h0.1 h0.2
  CM0 := may_any a x y h0.1 h0.2
  CM1 := may_any b x y h1.1 h1.2
  nA := cv_new _ _
  zA := rfl
  nB := cv_new _ _
  zB := rfl
  rA := rfl
  rB := rfl
set_option maxHeartbeats 4000000 in
set_option maxRecDepth 100000 in
theorem way_no (a b c x y : Int) (A B : Array Value) (p q R : Bool) (E0 E1 ra rb : Int) (Q S : Bool) (H : Ans a b c x y A B p q false Q R S E0 E1 ra rb) (W : World) :
    Calls Try.prog 8 #[.agg #[.int .u64 a, .int .u64 b, .int .u64 c], .agg #[.int .i64 x, .int .i64 y]] W fun e W' => e = .returned (.bool true) ∧ Below W.heap.size W W' := by
  obtain ⟨CO1, CO2, CI00, CI01, CI12, CI02, CI10, CM0, CM1, nA, zA, nB, zB, rA, rB⟩ := H
  have hp : (p == p) = true := by simp
  have O := hide (((Own.start W).alloc (.cells #[.int .u64 a, .int .u64 b, .int .u64 c] 39)).alloc (.cells #[.int .i64 x, .int .i64 y] 35))
  have g0 : (W.alloc (.cells #[.int .u64 a, .int .u64 b, .int .u64 c] 39)).heap.size = W.heap.size + 1 := by simp
  rw [g0] at O
  clear g0
  go_enter Try.func8, Try.ntmps8
  go_wp2_with fail
  refine (shown7_any _).mono ?_
  rintro e w1 ⟨rfl, hb⟩
  replace O := hide ((unhide O).call hb)
  clear hb
  have a0 : w1.cell? ⟨W.heap.size, 0, none⟩ = some (.int .u64 a) := by rw [cell_of_block ((unhide O).at W.heap.size (.cells #[.int .u64 a, .int .u64 b, .int .u64 c] 39) (by simp))]; rfl
  have a1 : w1.cell? ⟨W.heap.size, 1, none⟩ = some (.int .u64 b) := by rw [cell_of_block ((unhide O).at W.heap.size (.cells #[.int .u64 a, .int .u64 b, .int .u64 c] 39) (by simp))]; rfl
  have a2 : w1.cell? ⟨W.heap.size, 2, none⟩ = some (.int .u64 c) := by rw [cell_of_block ((unhide O).at W.heap.size (.cells #[.int .u64 a, .int .u64 b, .int .u64 c] 39) (by simp))]; rfl
  have b0 : w1.cell? ⟨W.heap.size + 1, 0, none⟩ = some (.int .i64 x) := by rw [cell_of_block ((unhide O).at (W.heap.size + 1) (.cells #[.int .i64 x, .int .i64 y] 35) (by simp))]; rfl
  have b1 : w1.cell? ⟨W.heap.size + 1, 1, none⟩ = some (.int .i64 y) := by rw [cell_of_block ((unhide O).at (W.heap.size + 1) (.cells #[.int .i64 x, .int .i64 y] 35) (by simp))]; rfl
  go_wp2_with fail
  refine (unhide CO1 _).mono ?_
  rintro e w2 ⟨rfl, hb⟩
  replace O := hide (((unhide O).call hb).alloc (.cells A 23))
  clear hb a0 a1 a2 b0 b1
  have a0 : (w2.alloc (.cells A 23)).cell? ⟨W.heap.size, 0, none⟩ = some (.int .u64 a) := by rw [cell_of_block ((unhide O).at W.heap.size (.cells #[.int .u64 a, .int .u64 b, .int .u64 c] 39) (by simp))]; rfl
  have a1 : (w2.alloc (.cells A 23)).cell? ⟨W.heap.size, 1, none⟩ = some (.int .u64 b) := by rw [cell_of_block ((unhide O).at W.heap.size (.cells #[.int .u64 a, .int .u64 b, .int .u64 c] 39) (by simp))]; rfl
  have a2 : (w2.alloc (.cells A 23)).cell? ⟨W.heap.size, 2, none⟩ = some (.int .u64 c) := by rw [cell_of_block ((unhide O).at W.heap.size (.cells #[.int .u64 a, .int .u64 b, .int .u64 c] 39) (by simp))]; rfl
  have b0 : (w2.alloc (.cells A 23)).cell? ⟨W.heap.size + 1, 0, none⟩ = some (.int .i64 x) := by rw [cell_of_block ((unhide O).at (W.heap.size + 1) (.cells #[.int .i64 x, .int .i64 y] 35) (by simp))]; rfl
  have b1 : (w2.alloc (.cells A 23)).cell? ⟨W.heap.size + 1, 1, none⟩ = some (.int .i64 y) := by rw [cell_of_block ((unhide O).at (W.heap.size + 1) (.cells #[.int .i64 x, .int .i64 y] 35) (by simp))]; rfl
  go_wp2_with fail
  refine (unhide CI00 _).mono ?_
  rintro e w3 ⟨rfl, hb⟩
  replace O := hide ((unhide O).call hb)
  clear hb a0 a1 a2 b0 b1
  have a0 : w3.cell? ⟨W.heap.size, 0, none⟩ = some (.int .u64 a) := by rw [cell_of_block ((unhide O).at W.heap.size (.cells #[.int .u64 a, .int .u64 b, .int .u64 c] 39) (by simp))]; rfl
  have a1 : w3.cell? ⟨W.heap.size, 1, none⟩ = some (.int .u64 b) := by rw [cell_of_block ((unhide O).at W.heap.size (.cells #[.int .u64 a, .int .u64 b, .int .u64 c] 39) (by simp))]; rfl
  have a2 : w3.cell? ⟨W.heap.size, 2, none⟩ = some (.int .u64 c) := by rw [cell_of_block ((unhide O).at W.heap.size (.cells #[.int .u64 a, .int .u64 b, .int .u64 c] 39) (by simp))]; rfl
  have b0 : w3.cell? ⟨W.heap.size + 1, 0, none⟩ = some (.int .i64 x) := by rw [cell_of_block ((unhide O).at (W.heap.size + 1) (.cells #[.int .i64 x, .int .i64 y] 35) (by simp))]; rfl
  have b1 : w3.cell? ⟨W.heap.size + 1, 1, none⟩ = some (.int .i64 y) := by rw [cell_of_block ((unhide O).at (W.heap.size + 1) (.cells #[.int .i64 x, .int .i64 y] 35) (by simp))]; rfl
  go_wp2_with fail
  refine (unhide CI01 _).mono ?_
  rintro e w4 ⟨rfl, hb⟩
  replace O := hide ((unhide O).call hb)
  clear hb a0 a1 a2 b0 b1
  have a0 : w4.cell? ⟨W.heap.size, 0, none⟩ = some (.int .u64 a) := by rw [cell_of_block ((unhide O).at W.heap.size (.cells #[.int .u64 a, .int .u64 b, .int .u64 c] 39) (by simp))]; rfl
  have a1 : w4.cell? ⟨W.heap.size, 1, none⟩ = some (.int .u64 b) := by rw [cell_of_block ((unhide O).at W.heap.size (.cells #[.int .u64 a, .int .u64 b, .int .u64 c] 39) (by simp))]; rfl
  have a2 : w4.cell? ⟨W.heap.size, 2, none⟩ = some (.int .u64 c) := by rw [cell_of_block ((unhide O).at W.heap.size (.cells #[.int .u64 a, .int .u64 b, .int .u64 c] 39) (by simp))]; rfl
  have b0 : w4.cell? ⟨W.heap.size + 1, 0, none⟩ = some (.int .i64 x) := by rw [cell_of_block ((unhide O).at (W.heap.size + 1) (.cells #[.int .i64 x, .int .i64 y] 35) (by simp))]; rfl
  have b1 : w4.cell? ⟨W.heap.size + 1, 1, none⟩ = some (.int .i64 y) := by rw [cell_of_block ((unhide O).at (W.heap.size + 1) (.cells #[.int .i64 x, .int .i64 y] 35) (by simp))]; rfl
  go_wp2_with fail
  refine (unhide CI01 _).mono ?_
  rintro e w5 ⟨rfl, hb⟩
  replace O := hide ((unhide O).call hb)
  clear hb a0 a1 a2 b0 b1
  have a0 : w5.cell? ⟨W.heap.size, 0, none⟩ = some (.int .u64 a) := by rw [cell_of_block ((unhide O).at W.heap.size (.cells #[.int .u64 a, .int .u64 b, .int .u64 c] 39) (by simp))]; rfl
  have a1 : w5.cell? ⟨W.heap.size, 1, none⟩ = some (.int .u64 b) := by rw [cell_of_block ((unhide O).at W.heap.size (.cells #[.int .u64 a, .int .u64 b, .int .u64 c] 39) (by simp))]; rfl
  have a2 : w5.cell? ⟨W.heap.size, 2, none⟩ = some (.int .u64 c) := by rw [cell_of_block ((unhide O).at W.heap.size (.cells #[.int .u64 a, .int .u64 b, .int .u64 c] 39) (by simp))]; rfl
  have b0 : w5.cell? ⟨W.heap.size + 1, 0, none⟩ = some (.int .i64 x) := by rw [cell_of_block ((unhide O).at (W.heap.size + 1) (.cells #[.int .i64 x, .int .i64 y] 35) (by simp))]; rfl
  have b1 : w5.cell? ⟨W.heap.size + 1, 1, none⟩ = some (.int .i64 y) := by rw [cell_of_block ((unhide O).at (W.heap.size + 1) (.cells #[.int .i64 x, .int .i64 y] 35) (by simp))]; rfl
  go_wp2_with fail
  refine (unhide CO1 _).mono ?_
  rintro e w6 ⟨rfl, hb⟩
  replace O := hide (((unhide O).call hb).alloc (.cells A 23))
  clear hb a0 a1 a2 b0 b1
  have a0 : (w6.alloc (.cells A 23)).cell? ⟨W.heap.size, 0, none⟩ = some (.int .u64 a) := by rw [cell_of_block ((unhide O).at W.heap.size (.cells #[.int .u64 a, .int .u64 b, .int .u64 c] 39) (by simp))]; rfl
  have a1 : (w6.alloc (.cells A 23)).cell? ⟨W.heap.size, 1, none⟩ = some (.int .u64 b) := by rw [cell_of_block ((unhide O).at W.heap.size (.cells #[.int .u64 a, .int .u64 b, .int .u64 c] 39) (by simp))]; rfl
  have a2 : (w6.alloc (.cells A 23)).cell? ⟨W.heap.size, 2, none⟩ = some (.int .u64 c) := by rw [cell_of_block ((unhide O).at W.heap.size (.cells #[.int .u64 a, .int .u64 b, .int .u64 c] 39) (by simp))]; rfl
  have b0 : (w6.alloc (.cells A 23)).cell? ⟨W.heap.size + 1, 0, none⟩ = some (.int .i64 x) := by rw [cell_of_block ((unhide O).at (W.heap.size + 1) (.cells #[.int .i64 x, .int .i64 y] 35) (by simp))]; rfl
  have b1 : (w6.alloc (.cells A 23)).cell? ⟨W.heap.size + 1, 1, none⟩ = some (.int .i64 y) := by rw [cell_of_block ((unhide O).at (W.heap.size + 1) (.cells #[.int .i64 x, .int .i64 y] 35) (by simp))]; rfl
  go_wp2_with fail
  refine (unhide CO2 _).mono ?_
  rintro e w7 ⟨rfl, hb⟩
  replace O := hide (((unhide O).call hb).alloc (.cells B 23))
  clear hb a0 a1 a2 b0 b1
  have a0 : (w7.alloc (.cells B 23)).cell? ⟨W.heap.size, 0, none⟩ = some (.int .u64 a) := by rw [cell_of_block ((unhide O).at W.heap.size (.cells #[.int .u64 a, .int .u64 b, .int .u64 c] 39) (by simp))]; rfl
  have a1 : (w7.alloc (.cells B 23)).cell? ⟨W.heap.size, 1, none⟩ = some (.int .u64 b) := by rw [cell_of_block ((unhide O).at W.heap.size (.cells #[.int .u64 a, .int .u64 b, .int .u64 c] 39) (by simp))]; rfl
  have a2 : (w7.alloc (.cells B 23)).cell? ⟨W.heap.size, 2, none⟩ = some (.int .u64 c) := by rw [cell_of_block ((unhide O).at W.heap.size (.cells #[.int .u64 a, .int .u64 b, .int .u64 c] 39) (by simp))]; rfl
  have b0 : (w7.alloc (.cells B 23)).cell? ⟨W.heap.size + 1, 0, none⟩ = some (.int .i64 x) := by rw [cell_of_block ((unhide O).at (W.heap.size + 1) (.cells #[.int .i64 x, .int .i64 y] 35) (by simp))]; rfl
  have b1 : (w7.alloc (.cells B 23)).cell? ⟨W.heap.size + 1, 1, none⟩ = some (.int .i64 y) := by rw [cell_of_block ((unhide O).at (W.heap.size + 1) (.cells #[.int .i64 x, .int .i64 y] 35) (by simp))]; rfl
  go_wp2_with fail
  refine (unhide CI01 _).mono ?_
  rintro e w8 ⟨rfl, hb⟩
  replace O := hide ((unhide O).call hb)
  clear hb a0 a1 a2 b0 b1
  have a0 : w8.cell? ⟨W.heap.size, 0, none⟩ = some (.int .u64 a) := by rw [cell_of_block ((unhide O).at W.heap.size (.cells #[.int .u64 a, .int .u64 b, .int .u64 c] 39) (by simp))]; rfl
  have a1 : w8.cell? ⟨W.heap.size, 1, none⟩ = some (.int .u64 b) := by rw [cell_of_block ((unhide O).at W.heap.size (.cells #[.int .u64 a, .int .u64 b, .int .u64 c] 39) (by simp))]; rfl
  have a2 : w8.cell? ⟨W.heap.size, 2, none⟩ = some (.int .u64 c) := by rw [cell_of_block ((unhide O).at W.heap.size (.cells #[.int .u64 a, .int .u64 b, .int .u64 c] 39) (by simp))]; rfl
  have b0 : w8.cell? ⟨W.heap.size + 1, 0, none⟩ = some (.int .i64 x) := by rw [cell_of_block ((unhide O).at (W.heap.size + 1) (.cells #[.int .i64 x, .int .i64 y] 35) (by simp))]; rfl
  have b1 : w8.cell? ⟨W.heap.size + 1, 1, none⟩ = some (.int .i64 y) := by rw [cell_of_block ((unhide O).at (W.heap.size + 1) (.cells #[.int .i64 x, .int .i64 y] 35) (by simp))]; rfl
  go_wp2_with fail
  go_ret
  exact ⟨rfl, (unhide O).below⟩
set_option maxHeartbeats 4000000 in
set_option maxRecDepth 100000 in
theorem way_QZS (a b c x y : Int) (A B : Array Value) (p q R : Bool) (E0 E1 ra rb : Int) (H : Ans a b c x y A B p q true true true true 0 0 ra rb) (hr : (ra == rb) = true) (W : World) :
    Calls Try.prog 8 #[.agg #[.int .u64 a, .int .u64 b, .int .u64 c], .agg #[.int .i64 x, .int .i64 y]] W fun e W' => e = .returned (.bool true) ∧ Below W.heap.size W W' := by
  obtain ⟨CO1, CO2, CI00, CI01, CI12, CI02, CI10, CM0, CM1, nA, zA, nB, zB, rA, rB⟩ := H
  have hp : (p == p) = true := by simp
  have O := hide (((Own.start W).alloc (.cells #[.int .u64 a, .int .u64 b, .int .u64 c] 39)).alloc (.cells #[.int .i64 x, .int .i64 y] 35))
  have g0 : (W.alloc (.cells #[.int .u64 a, .int .u64 b, .int .u64 c] 39)).heap.size = W.heap.size + 1 := by simp
  rw [g0] at O
  clear g0
  go_enter Try.func8, Try.ntmps8
  go_wp2_with fail
  refine (shown7_any _).mono ?_
  rintro e w1 ⟨rfl, hb⟩
  replace O := hide ((unhide O).call hb)
  clear hb
  have a0 : w1.cell? ⟨W.heap.size, 0, none⟩ = some (.int .u64 a) := by rw [cell_of_block ((unhide O).at W.heap.size (.cells #[.int .u64 a, .int .u64 b, .int .u64 c] 39) (by simp))]; rfl
  have a1 : w1.cell? ⟨W.heap.size, 1, none⟩ = some (.int .u64 b) := by rw [cell_of_block ((unhide O).at W.heap.size (.cells #[.int .u64 a, .int .u64 b, .int .u64 c] 39) (by simp))]; rfl
  have a2 : w1.cell? ⟨W.heap.size, 2, none⟩ = some (.int .u64 c) := by rw [cell_of_block ((unhide O).at W.heap.size (.cells #[.int .u64 a, .int .u64 b, .int .u64 c] 39) (by simp))]; rfl
  have b0 : w1.cell? ⟨W.heap.size + 1, 0, none⟩ = some (.int .i64 x) := by rw [cell_of_block ((unhide O).at (W.heap.size + 1) (.cells #[.int .i64 x, .int .i64 y] 35) (by simp))]; rfl
  have b1 : w1.cell? ⟨W.heap.size + 1, 1, none⟩ = some (.int .i64 y) := by rw [cell_of_block ((unhide O).at (W.heap.size + 1) (.cells #[.int .i64 x, .int .i64 y] 35) (by simp))]; rfl
  go_wp2_with fail
  refine (unhide CO1 _).mono ?_
  rintro e w2 ⟨rfl, hb⟩
  replace O := hide (((unhide O).call hb).alloc (.cells A 23))
  clear hb a0 a1 a2 b0 b1
  have a0 : (w2.alloc (.cells A 23)).cell? ⟨W.heap.size, 0, none⟩ = some (.int .u64 a) := by rw [cell_of_block ((unhide O).at W.heap.size (.cells #[.int .u64 a, .int .u64 b, .int .u64 c] 39) (by simp))]; rfl
  have a1 : (w2.alloc (.cells A 23)).cell? ⟨W.heap.size, 1, none⟩ = some (.int .u64 b) := by rw [cell_of_block ((unhide O).at W.heap.size (.cells #[.int .u64 a, .int .u64 b, .int .u64 c] 39) (by simp))]; rfl
  have a2 : (w2.alloc (.cells A 23)).cell? ⟨W.heap.size, 2, none⟩ = some (.int .u64 c) := by rw [cell_of_block ((unhide O).at W.heap.size (.cells #[.int .u64 a, .int .u64 b, .int .u64 c] 39) (by simp))]; rfl
  have b0 : (w2.alloc (.cells A 23)).cell? ⟨W.heap.size + 1, 0, none⟩ = some (.int .i64 x) := by rw [cell_of_block ((unhide O).at (W.heap.size + 1) (.cells #[.int .i64 x, .int .i64 y] 35) (by simp))]; rfl
  have b1 : (w2.alloc (.cells A 23)).cell? ⟨W.heap.size + 1, 1, none⟩ = some (.int .i64 y) := by rw [cell_of_block ((unhide O).at (W.heap.size + 1) (.cells #[.int .i64 x, .int .i64 y] 35) (by simp))]; rfl
  go_wp2_with fail
  refine (unhide CI00 _).mono ?_
  rintro e w3 ⟨rfl, hb⟩
  replace O := hide ((unhide O).call hb)
  clear hb a0 a1 a2 b0 b1
  have a0 : w3.cell? ⟨W.heap.size, 0, none⟩ = some (.int .u64 a) := by rw [cell_of_block ((unhide O).at W.heap.size (.cells #[.int .u64 a, .int .u64 b, .int .u64 c] 39) (by simp))]; rfl
  have a1 : w3.cell? ⟨W.heap.size, 1, none⟩ = some (.int .u64 b) := by rw [cell_of_block ((unhide O).at W.heap.size (.cells #[.int .u64 a, .int .u64 b, .int .u64 c] 39) (by simp))]; rfl
  have a2 : w3.cell? ⟨W.heap.size, 2, none⟩ = some (.int .u64 c) := by rw [cell_of_block ((unhide O).at W.heap.size (.cells #[.int .u64 a, .int .u64 b, .int .u64 c] 39) (by simp))]; rfl
  have b0 : w3.cell? ⟨W.heap.size + 1, 0, none⟩ = some (.int .i64 x) := by rw [cell_of_block ((unhide O).at (W.heap.size + 1) (.cells #[.int .i64 x, .int .i64 y] 35) (by simp))]; rfl
  have b1 : w3.cell? ⟨W.heap.size + 1, 1, none⟩ = some (.int .i64 y) := by rw [cell_of_block ((unhide O).at (W.heap.size + 1) (.cells #[.int .i64 x, .int .i64 y] 35) (by simp))]; rfl
  go_wp2_with fail
  refine (unhide CI01 _).mono ?_
  rintro e w4 ⟨rfl, hb⟩
  replace O := hide ((unhide O).call hb)
  clear hb a0 a1 a2 b0 b1
  have a0 : w4.cell? ⟨W.heap.size, 0, none⟩ = some (.int .u64 a) := by rw [cell_of_block ((unhide O).at W.heap.size (.cells #[.int .u64 a, .int .u64 b, .int .u64 c] 39) (by simp))]; rfl
  have a1 : w4.cell? ⟨W.heap.size, 1, none⟩ = some (.int .u64 b) := by rw [cell_of_block ((unhide O).at W.heap.size (.cells #[.int .u64 a, .int .u64 b, .int .u64 c] 39) (by simp))]; rfl
  have a2 : w4.cell? ⟨W.heap.size, 2, none⟩ = some (.int .u64 c) := by rw [cell_of_block ((unhide O).at W.heap.size (.cells #[.int .u64 a, .int .u64 b, .int .u64 c] 39) (by simp))]; rfl
  have b0 : w4.cell? ⟨W.heap.size + 1, 0, none⟩ = some (.int .i64 x) := by rw [cell_of_block ((unhide O).at (W.heap.size + 1) (.cells #[.int .i64 x, .int .i64 y] 35) (by simp))]; rfl
  have b1 : w4.cell? ⟨W.heap.size + 1, 1, none⟩ = some (.int .i64 y) := by rw [cell_of_block ((unhide O).at (W.heap.size + 1) (.cells #[.int .i64 x, .int .i64 y] 35) (by simp))]; rfl
  go_wp2_with fail
  refine (unhide CI12 _).mono ?_
  rintro e w5 ⟨rfl, hb⟩
  replace O := hide ((unhide O).call hb)
  clear hb a0 a1 a2 b0 b1
  have a0 : w5.cell? ⟨W.heap.size, 0, none⟩ = some (.int .u64 a) := by rw [cell_of_block ((unhide O).at W.heap.size (.cells #[.int .u64 a, .int .u64 b, .int .u64 c] 39) (by simp))]; rfl
  have a1 : w5.cell? ⟨W.heap.size, 1, none⟩ = some (.int .u64 b) := by rw [cell_of_block ((unhide O).at W.heap.size (.cells #[.int .u64 a, .int .u64 b, .int .u64 c] 39) (by simp))]; rfl
  have a2 : w5.cell? ⟨W.heap.size, 2, none⟩ = some (.int .u64 c) := by rw [cell_of_block ((unhide O).at W.heap.size (.cells #[.int .u64 a, .int .u64 b, .int .u64 c] 39) (by simp))]; rfl
  have b0 : w5.cell? ⟨W.heap.size + 1, 0, none⟩ = some (.int .i64 x) := by rw [cell_of_block ((unhide O).at (W.heap.size + 1) (.cells #[.int .i64 x, .int .i64 y] 35) (by simp))]; rfl
  have b1 : w5.cell? ⟨W.heap.size + 1, 1, none⟩ = some (.int .i64 y) := by rw [cell_of_block ((unhide O).at (W.heap.size + 1) (.cells #[.int .i64 x, .int .i64 y] 35) (by simp))]; rfl
  go_wp2_with fail
  refine (unhide CI02 _).mono ?_
  rintro e w6 ⟨rfl, hb⟩
  replace O := hide ((unhide O).call hb)
  clear hb a0 a1 a2 b0 b1
  have a0 : w6.cell? ⟨W.heap.size, 0, none⟩ = some (.int .u64 a) := by rw [cell_of_block ((unhide O).at W.heap.size (.cells #[.int .u64 a, .int .u64 b, .int .u64 c] 39) (by simp))]; rfl
  have a1 : w6.cell? ⟨W.heap.size, 1, none⟩ = some (.int .u64 b) := by rw [cell_of_block ((unhide O).at W.heap.size (.cells #[.int .u64 a, .int .u64 b, .int .u64 c] 39) (by simp))]; rfl
  have a2 : w6.cell? ⟨W.heap.size, 2, none⟩ = some (.int .u64 c) := by rw [cell_of_block ((unhide O).at W.heap.size (.cells #[.int .u64 a, .int .u64 b, .int .u64 c] 39) (by simp))]; rfl
  have b0 : w6.cell? ⟨W.heap.size + 1, 0, none⟩ = some (.int .i64 x) := by rw [cell_of_block ((unhide O).at (W.heap.size + 1) (.cells #[.int .i64 x, .int .i64 y] 35) (by simp))]; rfl
  have b1 : w6.cell? ⟨W.heap.size + 1, 1, none⟩ = some (.int .i64 y) := by rw [cell_of_block ((unhide O).at (W.heap.size + 1) (.cells #[.int .i64 x, .int .i64 y] 35) (by simp))]; rfl
  go_wp2_with fail
  refine (unhide CI01 _).mono ?_
  rintro e w7 ⟨rfl, hb⟩
  replace O := hide ((unhide O).call hb)
  clear hb a0 a1 a2 b0 b1
  have a0 : w7.cell? ⟨W.heap.size, 0, none⟩ = some (.int .u64 a) := by rw [cell_of_block ((unhide O).at W.heap.size (.cells #[.int .u64 a, .int .u64 b, .int .u64 c] 39) (by simp))]; rfl
  have a1 : w7.cell? ⟨W.heap.size, 1, none⟩ = some (.int .u64 b) := by rw [cell_of_block ((unhide O).at W.heap.size (.cells #[.int .u64 a, .int .u64 b, .int .u64 c] 39) (by simp))]; rfl
  have a2 : w7.cell? ⟨W.heap.size, 2, none⟩ = some (.int .u64 c) := by rw [cell_of_block ((unhide O).at W.heap.size (.cells #[.int .u64 a, .int .u64 b, .int .u64 c] 39) (by simp))]; rfl
  have b0 : w7.cell? ⟨W.heap.size + 1, 0, none⟩ = some (.int .i64 x) := by rw [cell_of_block ((unhide O).at (W.heap.size + 1) (.cells #[.int .i64 x, .int .i64 y] 35) (by simp))]; rfl
  have b1 : w7.cell? ⟨W.heap.size + 1, 1, none⟩ = some (.int .i64 y) := by rw [cell_of_block ((unhide O).at (W.heap.size + 1) (.cells #[.int .i64 x, .int .i64 y] 35) (by simp))]; rfl
  go_wp2_with fail
  refine (unhide CM0 _).mono ?_
  rintro e w8 ⟨rfl, hb⟩
  replace O := hide ((unhide O).call hb)
  clear hb a0 a1 a2 b0 b1
  have a0 : w8.cell? ⟨W.heap.size, 0, none⟩ = some (.int .u64 a) := by rw [cell_of_block ((unhide O).at W.heap.size (.cells #[.int .u64 a, .int .u64 b, .int .u64 c] 39) (by simp))]; rfl
  have a1 : w8.cell? ⟨W.heap.size, 1, none⟩ = some (.int .u64 b) := by rw [cell_of_block ((unhide O).at W.heap.size (.cells #[.int .u64 a, .int .u64 b, .int .u64 c] 39) (by simp))]; rfl
  have a2 : w8.cell? ⟨W.heap.size, 2, none⟩ = some (.int .u64 c) := by rw [cell_of_block ((unhide O).at W.heap.size (.cells #[.int .u64 a, .int .u64 b, .int .u64 c] 39) (by simp))]; rfl
  have b0 : w8.cell? ⟨W.heap.size + 1, 0, none⟩ = some (.int .i64 x) := by rw [cell_of_block ((unhide O).at (W.heap.size + 1) (.cells #[.int .i64 x, .int .i64 y] 35) (by simp))]; rfl
  have b1 : w8.cell? ⟨W.heap.size + 1, 1, none⟩ = some (.int .i64 y) := by rw [cell_of_block ((unhide O).at (W.heap.size + 1) (.cells #[.int .i64 x, .int .i64 y] 35) (by simp))]; rfl
  go_wp2_with fail
  refine (unhide CM1 _).mono ?_
  rintro e w9 ⟨rfl, hb⟩
  replace O := hide ((unhide O).call hb)
  clear hb a0 a1 a2 b0 b1
  have a0 : w9.cell? ⟨W.heap.size, 0, none⟩ = some (.int .u64 a) := by rw [cell_of_block ((unhide O).at W.heap.size (.cells #[.int .u64 a, .int .u64 b, .int .u64 c] 39) (by simp))]; rfl
  have a1 : w9.cell? ⟨W.heap.size, 1, none⟩ = some (.int .u64 b) := by rw [cell_of_block ((unhide O).at W.heap.size (.cells #[.int .u64 a, .int .u64 b, .int .u64 c] 39) (by simp))]; rfl
  have a2 : w9.cell? ⟨W.heap.size, 2, none⟩ = some (.int .u64 c) := by rw [cell_of_block ((unhide O).at W.heap.size (.cells #[.int .u64 a, .int .u64 b, .int .u64 c] 39) (by simp))]; rfl
  have b0 : w9.cell? ⟨W.heap.size + 1, 0, none⟩ = some (.int .i64 x) := by rw [cell_of_block ((unhide O).at (W.heap.size + 1) (.cells #[.int .i64 x, .int .i64 y] 35) (by simp))]; rfl
  have b1 : w9.cell? ⟨W.heap.size + 1, 1, none⟩ = some (.int .i64 y) := by rw [cell_of_block ((unhide O).at (W.heap.size + 1) (.cells #[.int .i64 x, .int .i64 y] 35) (by simp))]; rfl
  go_wp2_with fail
  refine (unhide CO1 _).mono ?_
  rintro e w10 ⟨rfl, hb⟩
  replace O := hide (((unhide O).call hb).alloc (.cells A 23))
  clear hb a0 a1 a2 b0 b1
  have a0 : (w10.alloc (.cells A 23)).cell? ⟨W.heap.size, 0, none⟩ = some (.int .u64 a) := by rw [cell_of_block ((unhide O).at W.heap.size (.cells #[.int .u64 a, .int .u64 b, .int .u64 c] 39) (by simp))]; rfl
  have a1 : (w10.alloc (.cells A 23)).cell? ⟨W.heap.size, 1, none⟩ = some (.int .u64 b) := by rw [cell_of_block ((unhide O).at W.heap.size (.cells #[.int .u64 a, .int .u64 b, .int .u64 c] 39) (by simp))]; rfl
  have a2 : (w10.alloc (.cells A 23)).cell? ⟨W.heap.size, 2, none⟩ = some (.int .u64 c) := by rw [cell_of_block ((unhide O).at W.heap.size (.cells #[.int .u64 a, .int .u64 b, .int .u64 c] 39) (by simp))]; rfl
  have b0 : (w10.alloc (.cells A 23)).cell? ⟨W.heap.size + 1, 0, none⟩ = some (.int .i64 x) := by rw [cell_of_block ((unhide O).at (W.heap.size + 1) (.cells #[.int .i64 x, .int .i64 y] 35) (by simp))]; rfl
  have b1 : (w10.alloc (.cells A 23)).cell? ⟨W.heap.size + 1, 1, none⟩ = some (.int .i64 y) := by rw [cell_of_block ((unhide O).at (W.heap.size + 1) (.cells #[.int .i64 x, .int .i64 y] 35) (by simp))]; rfl
  go_wp2_with fail
  refine (unhide CO2 _).mono ?_
  rintro e w11 ⟨rfl, hb⟩
  replace O := hide (((unhide O).call hb).alloc (.cells B 23))
  clear hb a0 a1 a2 b0 b1
  have a0 : (w11.alloc (.cells B 23)).cell? ⟨W.heap.size, 0, none⟩ = some (.int .u64 a) := by rw [cell_of_block ((unhide O).at W.heap.size (.cells #[.int .u64 a, .int .u64 b, .int .u64 c] 39) (by simp))]; rfl
  have a1 : (w11.alloc (.cells B 23)).cell? ⟨W.heap.size, 1, none⟩ = some (.int .u64 b) := by rw [cell_of_block ((unhide O).at W.heap.size (.cells #[.int .u64 a, .int .u64 b, .int .u64 c] 39) (by simp))]; rfl
  have a2 : (w11.alloc (.cells B 23)).cell? ⟨W.heap.size, 2, none⟩ = some (.int .u64 c) := by rw [cell_of_block ((unhide O).at W.heap.size (.cells #[.int .u64 a, .int .u64 b, .int .u64 c] 39) (by simp))]; rfl
  have b0 : (w11.alloc (.cells B 23)).cell? ⟨W.heap.size + 1, 0, none⟩ = some (.int .i64 x) := by rw [cell_of_block ((unhide O).at (W.heap.size + 1) (.cells #[.int .i64 x, .int .i64 y] 35) (by simp))]; rfl
  have b1 : (w11.alloc (.cells B 23)).cell? ⟨W.heap.size + 1, 1, none⟩ = some (.int .i64 y) := by rw [cell_of_block ((unhide O).at (W.heap.size + 1) (.cells #[.int .i64 x, .int .i64 y] 35) (by simp))]; rfl
  go_wp2_with fail
  refine (unhide CI01 _).mono ?_
  rintro e w12 ⟨rfl, hb⟩
  replace O := hide ((unhide O).call hb)
  clear hb a0 a1 a2 b0 b1
  have a0 : w12.cell? ⟨W.heap.size, 0, none⟩ = some (.int .u64 a) := by rw [cell_of_block ((unhide O).at W.heap.size (.cells #[.int .u64 a, .int .u64 b, .int .u64 c] 39) (by simp))]; rfl
  have a1 : w12.cell? ⟨W.heap.size, 1, none⟩ = some (.int .u64 b) := by rw [cell_of_block ((unhide O).at W.heap.size (.cells #[.int .u64 a, .int .u64 b, .int .u64 c] 39) (by simp))]; rfl
  have a2 : w12.cell? ⟨W.heap.size, 2, none⟩ = some (.int .u64 c) := by rw [cell_of_block ((unhide O).at W.heap.size (.cells #[.int .u64 a, .int .u64 b, .int .u64 c] 39) (by simp))]; rfl
  have b0 : w12.cell? ⟨W.heap.size + 1, 0, none⟩ = some (.int .i64 x) := by rw [cell_of_block ((unhide O).at (W.heap.size + 1) (.cells #[.int .i64 x, .int .i64 y] 35) (by simp))]; rfl
  have b1 : w12.cell? ⟨W.heap.size + 1, 1, none⟩ = some (.int .i64 y) := by rw [cell_of_block ((unhide O).at (W.heap.size + 1) (.cells #[.int .i64 x, .int .i64 y] 35) (by simp))]; rfl
  go_wp2_with fail
  refine (unhide CI10 _).mono ?_
  rintro e w13 ⟨rfl, hb⟩
  replace O := hide ((unhide O).call hb)
  clear hb a0 a1 a2 b0 b1
  have a0 : w13.cell? ⟨W.heap.size, 0, none⟩ = some (.int .u64 a) := by rw [cell_of_block ((unhide O).at W.heap.size (.cells #[.int .u64 a, .int .u64 b, .int .u64 c] 39) (by simp))]; rfl
  have a1 : w13.cell? ⟨W.heap.size, 1, none⟩ = some (.int .u64 b) := by rw [cell_of_block ((unhide O).at W.heap.size (.cells #[.int .u64 a, .int .u64 b, .int .u64 c] 39) (by simp))]; rfl
  have a2 : w13.cell? ⟨W.heap.size, 2, none⟩ = some (.int .u64 c) := by rw [cell_of_block ((unhide O).at W.heap.size (.cells #[.int .u64 a, .int .u64 b, .int .u64 c] 39) (by simp))]; rfl
  have b0 : w13.cell? ⟨W.heap.size + 1, 0, none⟩ = some (.int .i64 x) := by rw [cell_of_block ((unhide O).at (W.heap.size + 1) (.cells #[.int .i64 x, .int .i64 y] 35) (by simp))]; rfl
  have b1 : w13.cell? ⟨W.heap.size + 1, 1, none⟩ = some (.int .i64 y) := by rw [cell_of_block ((unhide O).at (W.heap.size + 1) (.cells #[.int .i64 x, .int .i64 y] 35) (by simp))]; rfl
  have r0 : w13.cell? ⟨w10.heap.size, 1, none⟩ = some (.int .i64 ra) := by rw [cell_of_block ((unhide O).at w10.heap.size (.cells A 23) (by simp))]; exact rA
  have r1 : w13.cell? ⟨w11.heap.size, 1, none⟩ = some (.int .i64 rb) := by rw [cell_of_block ((unhide O).at w11.heap.size (.cells B 23) (by simp))]; exact rB
  go_wp2_with fail
  go_ret
  exact ⟨rfl, (unhide O).below⟩
set_option maxHeartbeats 4000000 in
set_option maxRecDepth 100000 in
theorem way_QZN (a b c x y : Int) (A B : Array Value) (p q R : Bool) (E0 E1 ra rb : Int) (H : Ans a b c x y A B p q true true true false 0 0 ra rb) (W : World) :
    Calls Try.prog 8 #[.agg #[.int .u64 a, .int .u64 b, .int .u64 c], .agg #[.int .i64 x, .int .i64 y]] W fun e W' => e = .returned (.bool true) ∧ Below W.heap.size W W' := by
  obtain ⟨CO1, CO2, CI00, CI01, CI12, CI02, CI10, CM0, CM1, nA, zA, nB, zB, rA, rB⟩ := H
  have hp : (p == p) = true := by simp
  have O := hide (((Own.start W).alloc (.cells #[.int .u64 a, .int .u64 b, .int .u64 c] 39)).alloc (.cells #[.int .i64 x, .int .i64 y] 35))
  have g0 : (W.alloc (.cells #[.int .u64 a, .int .u64 b, .int .u64 c] 39)).heap.size = W.heap.size + 1 := by simp
  rw [g0] at O
  clear g0
  go_enter Try.func8, Try.ntmps8
  go_wp2_with fail
  refine (shown7_any _).mono ?_
  rintro e w1 ⟨rfl, hb⟩
  replace O := hide ((unhide O).call hb)
  clear hb
  have a0 : w1.cell? ⟨W.heap.size, 0, none⟩ = some (.int .u64 a) := by rw [cell_of_block ((unhide O).at W.heap.size (.cells #[.int .u64 a, .int .u64 b, .int .u64 c] 39) (by simp))]; rfl
  have a1 : w1.cell? ⟨W.heap.size, 1, none⟩ = some (.int .u64 b) := by rw [cell_of_block ((unhide O).at W.heap.size (.cells #[.int .u64 a, .int .u64 b, .int .u64 c] 39) (by simp))]; rfl
  have a2 : w1.cell? ⟨W.heap.size, 2, none⟩ = some (.int .u64 c) := by rw [cell_of_block ((unhide O).at W.heap.size (.cells #[.int .u64 a, .int .u64 b, .int .u64 c] 39) (by simp))]; rfl
  have b0 : w1.cell? ⟨W.heap.size + 1, 0, none⟩ = some (.int .i64 x) := by rw [cell_of_block ((unhide O).at (W.heap.size + 1) (.cells #[.int .i64 x, .int .i64 y] 35) (by simp))]; rfl
  have b1 : w1.cell? ⟨W.heap.size + 1, 1, none⟩ = some (.int .i64 y) := by rw [cell_of_block ((unhide O).at (W.heap.size + 1) (.cells #[.int .i64 x, .int .i64 y] 35) (by simp))]; rfl
  go_wp2_with fail
  refine (unhide CO1 _).mono ?_
  rintro e w2 ⟨rfl, hb⟩
  replace O := hide (((unhide O).call hb).alloc (.cells A 23))
  clear hb a0 a1 a2 b0 b1
  have a0 : (w2.alloc (.cells A 23)).cell? ⟨W.heap.size, 0, none⟩ = some (.int .u64 a) := by rw [cell_of_block ((unhide O).at W.heap.size (.cells #[.int .u64 a, .int .u64 b, .int .u64 c] 39) (by simp))]; rfl
  have a1 : (w2.alloc (.cells A 23)).cell? ⟨W.heap.size, 1, none⟩ = some (.int .u64 b) := by rw [cell_of_block ((unhide O).at W.heap.size (.cells #[.int .u64 a, .int .u64 b, .int .u64 c] 39) (by simp))]; rfl
  have a2 : (w2.alloc (.cells A 23)).cell? ⟨W.heap.size, 2, none⟩ = some (.int .u64 c) := by rw [cell_of_block ((unhide O).at W.heap.size (.cells #[.int .u64 a, .int .u64 b, .int .u64 c] 39) (by simp))]; rfl
  have b0 : (w2.alloc (.cells A 23)).cell? ⟨W.heap.size + 1, 0, none⟩ = some (.int .i64 x) := by rw [cell_of_block ((unhide O).at (W.heap.size + 1) (.cells #[.int .i64 x, .int .i64 y] 35) (by simp))]; rfl
  have b1 : (w2.alloc (.cells A 23)).cell? ⟨W.heap.size + 1, 1, none⟩ = some (.int .i64 y) := by rw [cell_of_block ((unhide O).at (W.heap.size + 1) (.cells #[.int .i64 x, .int .i64 y] 35) (by simp))]; rfl
  go_wp2_with fail
  refine (unhide CI00 _).mono ?_
  rintro e w3 ⟨rfl, hb⟩
  replace O := hide ((unhide O).call hb)
  clear hb a0 a1 a2 b0 b1
  have a0 : w3.cell? ⟨W.heap.size, 0, none⟩ = some (.int .u64 a) := by rw [cell_of_block ((unhide O).at W.heap.size (.cells #[.int .u64 a, .int .u64 b, .int .u64 c] 39) (by simp))]; rfl
  have a1 : w3.cell? ⟨W.heap.size, 1, none⟩ = some (.int .u64 b) := by rw [cell_of_block ((unhide O).at W.heap.size (.cells #[.int .u64 a, .int .u64 b, .int .u64 c] 39) (by simp))]; rfl
  have a2 : w3.cell? ⟨W.heap.size, 2, none⟩ = some (.int .u64 c) := by rw [cell_of_block ((unhide O).at W.heap.size (.cells #[.int .u64 a, .int .u64 b, .int .u64 c] 39) (by simp))]; rfl
  have b0 : w3.cell? ⟨W.heap.size + 1, 0, none⟩ = some (.int .i64 x) := by rw [cell_of_block ((unhide O).at (W.heap.size + 1) (.cells #[.int .i64 x, .int .i64 y] 35) (by simp))]; rfl
  have b1 : w3.cell? ⟨W.heap.size + 1, 1, none⟩ = some (.int .i64 y) := by rw [cell_of_block ((unhide O).at (W.heap.size + 1) (.cells #[.int .i64 x, .int .i64 y] 35) (by simp))]; rfl
  go_wp2_with fail
  refine (unhide CI01 _).mono ?_
  rintro e w4 ⟨rfl, hb⟩
  replace O := hide ((unhide O).call hb)
  clear hb a0 a1 a2 b0 b1
  have a0 : w4.cell? ⟨W.heap.size, 0, none⟩ = some (.int .u64 a) := by rw [cell_of_block ((unhide O).at W.heap.size (.cells #[.int .u64 a, .int .u64 b, .int .u64 c] 39) (by simp))]; rfl
  have a1 : w4.cell? ⟨W.heap.size, 1, none⟩ = some (.int .u64 b) := by rw [cell_of_block ((unhide O).at W.heap.size (.cells #[.int .u64 a, .int .u64 b, .int .u64 c] 39) (by simp))]; rfl
  have a2 : w4.cell? ⟨W.heap.size, 2, none⟩ = some (.int .u64 c) := by rw [cell_of_block ((unhide O).at W.heap.size (.cells #[.int .u64 a, .int .u64 b, .int .u64 c] 39) (by simp))]; rfl
  have b0 : w4.cell? ⟨W.heap.size + 1, 0, none⟩ = some (.int .i64 x) := by rw [cell_of_block ((unhide O).at (W.heap.size + 1) (.cells #[.int .i64 x, .int .i64 y] 35) (by simp))]; rfl
  have b1 : w4.cell? ⟨W.heap.size + 1, 1, none⟩ = some (.int .i64 y) := by rw [cell_of_block ((unhide O).at (W.heap.size + 1) (.cells #[.int .i64 x, .int .i64 y] 35) (by simp))]; rfl
  go_wp2_with fail
  refine (unhide CI12 _).mono ?_
  rintro e w5 ⟨rfl, hb⟩
  replace O := hide ((unhide O).call hb)
  clear hb a0 a1 a2 b0 b1
  have a0 : w5.cell? ⟨W.heap.size, 0, none⟩ = some (.int .u64 a) := by rw [cell_of_block ((unhide O).at W.heap.size (.cells #[.int .u64 a, .int .u64 b, .int .u64 c] 39) (by simp))]; rfl
  have a1 : w5.cell? ⟨W.heap.size, 1, none⟩ = some (.int .u64 b) := by rw [cell_of_block ((unhide O).at W.heap.size (.cells #[.int .u64 a, .int .u64 b, .int .u64 c] 39) (by simp))]; rfl
  have a2 : w5.cell? ⟨W.heap.size, 2, none⟩ = some (.int .u64 c) := by rw [cell_of_block ((unhide O).at W.heap.size (.cells #[.int .u64 a, .int .u64 b, .int .u64 c] 39) (by simp))]; rfl
  have b0 : w5.cell? ⟨W.heap.size + 1, 0, none⟩ = some (.int .i64 x) := by rw [cell_of_block ((unhide O).at (W.heap.size + 1) (.cells #[.int .i64 x, .int .i64 y] 35) (by simp))]; rfl
  have b1 : w5.cell? ⟨W.heap.size + 1, 1, none⟩ = some (.int .i64 y) := by rw [cell_of_block ((unhide O).at (W.heap.size + 1) (.cells #[.int .i64 x, .int .i64 y] 35) (by simp))]; rfl
  go_wp2_with fail
  refine (unhide CI02 _).mono ?_
  rintro e w6 ⟨rfl, hb⟩
  replace O := hide ((unhide O).call hb)
  clear hb a0 a1 a2 b0 b1
  have a0 : w6.cell? ⟨W.heap.size, 0, none⟩ = some (.int .u64 a) := by rw [cell_of_block ((unhide O).at W.heap.size (.cells #[.int .u64 a, .int .u64 b, .int .u64 c] 39) (by simp))]; rfl
  have a1 : w6.cell? ⟨W.heap.size, 1, none⟩ = some (.int .u64 b) := by rw [cell_of_block ((unhide O).at W.heap.size (.cells #[.int .u64 a, .int .u64 b, .int .u64 c] 39) (by simp))]; rfl
  have a2 : w6.cell? ⟨W.heap.size, 2, none⟩ = some (.int .u64 c) := by rw [cell_of_block ((unhide O).at W.heap.size (.cells #[.int .u64 a, .int .u64 b, .int .u64 c] 39) (by simp))]; rfl
  have b0 : w6.cell? ⟨W.heap.size + 1, 0, none⟩ = some (.int .i64 x) := by rw [cell_of_block ((unhide O).at (W.heap.size + 1) (.cells #[.int .i64 x, .int .i64 y] 35) (by simp))]; rfl
  have b1 : w6.cell? ⟨W.heap.size + 1, 1, none⟩ = some (.int .i64 y) := by rw [cell_of_block ((unhide O).at (W.heap.size + 1) (.cells #[.int .i64 x, .int .i64 y] 35) (by simp))]; rfl
  go_wp2_with fail
  refine (unhide CI01 _).mono ?_
  rintro e w7 ⟨rfl, hb⟩
  replace O := hide ((unhide O).call hb)
  clear hb a0 a1 a2 b0 b1
  have a0 : w7.cell? ⟨W.heap.size, 0, none⟩ = some (.int .u64 a) := by rw [cell_of_block ((unhide O).at W.heap.size (.cells #[.int .u64 a, .int .u64 b, .int .u64 c] 39) (by simp))]; rfl
  have a1 : w7.cell? ⟨W.heap.size, 1, none⟩ = some (.int .u64 b) := by rw [cell_of_block ((unhide O).at W.heap.size (.cells #[.int .u64 a, .int .u64 b, .int .u64 c] 39) (by simp))]; rfl
  have a2 : w7.cell? ⟨W.heap.size, 2, none⟩ = some (.int .u64 c) := by rw [cell_of_block ((unhide O).at W.heap.size (.cells #[.int .u64 a, .int .u64 b, .int .u64 c] 39) (by simp))]; rfl
  have b0 : w7.cell? ⟨W.heap.size + 1, 0, none⟩ = some (.int .i64 x) := by rw [cell_of_block ((unhide O).at (W.heap.size + 1) (.cells #[.int .i64 x, .int .i64 y] 35) (by simp))]; rfl
  have b1 : w7.cell? ⟨W.heap.size + 1, 1, none⟩ = some (.int .i64 y) := by rw [cell_of_block ((unhide O).at (W.heap.size + 1) (.cells #[.int .i64 x, .int .i64 y] 35) (by simp))]; rfl
  go_wp2_with fail
  refine (unhide CM0 _).mono ?_
  rintro e w8 ⟨rfl, hb⟩
  replace O := hide ((unhide O).call hb)
  clear hb a0 a1 a2 b0 b1
  have a0 : w8.cell? ⟨W.heap.size, 0, none⟩ = some (.int .u64 a) := by rw [cell_of_block ((unhide O).at W.heap.size (.cells #[.int .u64 a, .int .u64 b, .int .u64 c] 39) (by simp))]; rfl
  have a1 : w8.cell? ⟨W.heap.size, 1, none⟩ = some (.int .u64 b) := by rw [cell_of_block ((unhide O).at W.heap.size (.cells #[.int .u64 a, .int .u64 b, .int .u64 c] 39) (by simp))]; rfl
  have a2 : w8.cell? ⟨W.heap.size, 2, none⟩ = some (.int .u64 c) := by rw [cell_of_block ((unhide O).at W.heap.size (.cells #[.int .u64 a, .int .u64 b, .int .u64 c] 39) (by simp))]; rfl
  have b0 : w8.cell? ⟨W.heap.size + 1, 0, none⟩ = some (.int .i64 x) := by rw [cell_of_block ((unhide O).at (W.heap.size + 1) (.cells #[.int .i64 x, .int .i64 y] 35) (by simp))]; rfl
  have b1 : w8.cell? ⟨W.heap.size + 1, 1, none⟩ = some (.int .i64 y) := by rw [cell_of_block ((unhide O).at (W.heap.size + 1) (.cells #[.int .i64 x, .int .i64 y] 35) (by simp))]; rfl
  go_wp2_with fail
  refine (unhide CM1 _).mono ?_
  rintro e w9 ⟨rfl, hb⟩
  replace O := hide ((unhide O).call hb)
  clear hb a0 a1 a2 b0 b1
  have a0 : w9.cell? ⟨W.heap.size, 0, none⟩ = some (.int .u64 a) := by rw [cell_of_block ((unhide O).at W.heap.size (.cells #[.int .u64 a, .int .u64 b, .int .u64 c] 39) (by simp))]; rfl
  have a1 : w9.cell? ⟨W.heap.size, 1, none⟩ = some (.int .u64 b) := by rw [cell_of_block ((unhide O).at W.heap.size (.cells #[.int .u64 a, .int .u64 b, .int .u64 c] 39) (by simp))]; rfl
  have a2 : w9.cell? ⟨W.heap.size, 2, none⟩ = some (.int .u64 c) := by rw [cell_of_block ((unhide O).at W.heap.size (.cells #[.int .u64 a, .int .u64 b, .int .u64 c] 39) (by simp))]; rfl
  have b0 : w9.cell? ⟨W.heap.size + 1, 0, none⟩ = some (.int .i64 x) := by rw [cell_of_block ((unhide O).at (W.heap.size + 1) (.cells #[.int .i64 x, .int .i64 y] 35) (by simp))]; rfl
  have b1 : w9.cell? ⟨W.heap.size + 1, 1, none⟩ = some (.int .i64 y) := by rw [cell_of_block ((unhide O).at (W.heap.size + 1) (.cells #[.int .i64 x, .int .i64 y] 35) (by simp))]; rfl
  go_wp2_with fail
  refine (unhide CO1 _).mono ?_
  rintro e w10 ⟨rfl, hb⟩
  replace O := hide (((unhide O).call hb).alloc (.cells A 23))
  clear hb a0 a1 a2 b0 b1
  have a0 : (w10.alloc (.cells A 23)).cell? ⟨W.heap.size, 0, none⟩ = some (.int .u64 a) := by rw [cell_of_block ((unhide O).at W.heap.size (.cells #[.int .u64 a, .int .u64 b, .int .u64 c] 39) (by simp))]; rfl
  have a1 : (w10.alloc (.cells A 23)).cell? ⟨W.heap.size, 1, none⟩ = some (.int .u64 b) := by rw [cell_of_block ((unhide O).at W.heap.size (.cells #[.int .u64 a, .int .u64 b, .int .u64 c] 39) (by simp))]; rfl
  have a2 : (w10.alloc (.cells A 23)).cell? ⟨W.heap.size, 2, none⟩ = some (.int .u64 c) := by rw [cell_of_block ((unhide O).at W.heap.size (.cells #[.int .u64 a, .int .u64 b, .int .u64 c] 39) (by simp))]; rfl
  have b0 : (w10.alloc (.cells A 23)).cell? ⟨W.heap.size + 1, 0, none⟩ = some (.int .i64 x) := by rw [cell_of_block ((unhide O).at (W.heap.size + 1) (.cells #[.int .i64 x, .int .i64 y] 35) (by simp))]; rfl
  have b1 : (w10.alloc (.cells A 23)).cell? ⟨W.heap.size + 1, 1, none⟩ = some (.int .i64 y) := by rw [cell_of_block ((unhide O).at (W.heap.size + 1) (.cells #[.int .i64 x, .int .i64 y] 35) (by simp))]; rfl
  go_wp2_with fail
  refine (unhide CO2 _).mono ?_
  rintro e w11 ⟨rfl, hb⟩
  replace O := hide (((unhide O).call hb).alloc (.cells B 23))
  clear hb a0 a1 a2 b0 b1
  have a0 : (w11.alloc (.cells B 23)).cell? ⟨W.heap.size, 0, none⟩ = some (.int .u64 a) := by rw [cell_of_block ((unhide O).at W.heap.size (.cells #[.int .u64 a, .int .u64 b, .int .u64 c] 39) (by simp))]; rfl
  have a1 : (w11.alloc (.cells B 23)).cell? ⟨W.heap.size, 1, none⟩ = some (.int .u64 b) := by rw [cell_of_block ((unhide O).at W.heap.size (.cells #[.int .u64 a, .int .u64 b, .int .u64 c] 39) (by simp))]; rfl
  have a2 : (w11.alloc (.cells B 23)).cell? ⟨W.heap.size, 2, none⟩ = some (.int .u64 c) := by rw [cell_of_block ((unhide O).at W.heap.size (.cells #[.int .u64 a, .int .u64 b, .int .u64 c] 39) (by simp))]; rfl
  have b0 : (w11.alloc (.cells B 23)).cell? ⟨W.heap.size + 1, 0, none⟩ = some (.int .i64 x) := by rw [cell_of_block ((unhide O).at (W.heap.size + 1) (.cells #[.int .i64 x, .int .i64 y] 35) (by simp))]; rfl
  have b1 : (w11.alloc (.cells B 23)).cell? ⟨W.heap.size + 1, 1, none⟩ = some (.int .i64 y) := by rw [cell_of_block ((unhide O).at (W.heap.size + 1) (.cells #[.int .i64 x, .int .i64 y] 35) (by simp))]; rfl
  go_wp2_with fail
  refine (unhide CI01 _).mono ?_
  rintro e w12 ⟨rfl, hb⟩
  replace O := hide ((unhide O).call hb)
  clear hb a0 a1 a2 b0 b1
  have a0 : w12.cell? ⟨W.heap.size, 0, none⟩ = some (.int .u64 a) := by rw [cell_of_block ((unhide O).at W.heap.size (.cells #[.int .u64 a, .int .u64 b, .int .u64 c] 39) (by simp))]; rfl
  have a1 : w12.cell? ⟨W.heap.size, 1, none⟩ = some (.int .u64 b) := by rw [cell_of_block ((unhide O).at W.heap.size (.cells #[.int .u64 a, .int .u64 b, .int .u64 c] 39) (by simp))]; rfl
  have a2 : w12.cell? ⟨W.heap.size, 2, none⟩ = some (.int .u64 c) := by rw [cell_of_block ((unhide O).at W.heap.size (.cells #[.int .u64 a, .int .u64 b, .int .u64 c] 39) (by simp))]; rfl
  have b0 : w12.cell? ⟨W.heap.size + 1, 0, none⟩ = some (.int .i64 x) := by rw [cell_of_block ((unhide O).at (W.heap.size + 1) (.cells #[.int .i64 x, .int .i64 y] 35) (by simp))]; rfl
  have b1 : w12.cell? ⟨W.heap.size + 1, 1, none⟩ = some (.int .i64 y) := by rw [cell_of_block ((unhide O).at (W.heap.size + 1) (.cells #[.int .i64 x, .int .i64 y] 35) (by simp))]; rfl
  go_wp2_with fail
  refine (unhide CI10 _).mono ?_
  rintro e w13 ⟨rfl, hb⟩
  replace O := hide ((unhide O).call hb)
  clear hb a0 a1 a2 b0 b1
  have a0 : w13.cell? ⟨W.heap.size, 0, none⟩ = some (.int .u64 a) := by rw [cell_of_block ((unhide O).at W.heap.size (.cells #[.int .u64 a, .int .u64 b, .int .u64 c] 39) (by simp))]; rfl
  have a1 : w13.cell? ⟨W.heap.size, 1, none⟩ = some (.int .u64 b) := by rw [cell_of_block ((unhide O).at W.heap.size (.cells #[.int .u64 a, .int .u64 b, .int .u64 c] 39) (by simp))]; rfl
  have a2 : w13.cell? ⟨W.heap.size, 2, none⟩ = some (.int .u64 c) := by rw [cell_of_block ((unhide O).at W.heap.size (.cells #[.int .u64 a, .int .u64 b, .int .u64 c] 39) (by simp))]; rfl
  have b0 : w13.cell? ⟨W.heap.size + 1, 0, none⟩ = some (.int .i64 x) := by rw [cell_of_block ((unhide O).at (W.heap.size + 1) (.cells #[.int .i64 x, .int .i64 y] 35) (by simp))]; rfl
  have b1 : w13.cell? ⟨W.heap.size + 1, 1, none⟩ = some (.int .i64 y) := by rw [cell_of_block ((unhide O).at (W.heap.size + 1) (.cells #[.int .i64 x, .int .i64 y] 35) (by simp))]; rfl
  go_wp2_with fail
  go_ret
  exact ⟨rfl, (unhide O).below⟩
set_option maxHeartbeats 4000000 in
set_option maxRecDepth 100000 in
theorem way_QNS (a b c x y : Int) (A B : Array Value) (p q R : Bool) (E0 E1 ra rb : Int) (H : Ans a b c x y A B p q true true true true E0 E1 ra rb) (hE : (E0 == 0) = false) (hr : (ra == rb) = true) (W : World) :
    Calls Try.prog 8 #[.agg #[.int .u64 a, .int .u64 b, .int .u64 c], .agg #[.int .i64 x, .int .i64 y]] W fun e W' => e = .returned (.bool true) ∧ Below W.heap.size W W' := by
  obtain ⟨CO1, CO2, CI00, CI01, CI12, CI02, CI10, CM0, CM1, nA, zA, nB, zB, rA, rB⟩ := H
  have hp : (p == p) = true := by simp
  have O := hide (((Own.start W).alloc (.cells #[.int .u64 a, .int .u64 b, .int .u64 c] 39)).alloc (.cells #[.int .i64 x, .int .i64 y] 35))
  have g0 : (W.alloc (.cells #[.int .u64 a, .int .u64 b, .int .u64 c] 39)).heap.size = W.heap.size + 1 := by simp
  rw [g0] at O
  clear g0
  go_enter Try.func8, Try.ntmps8
  go_wp2_with fail
  refine (shown7_any _).mono ?_
  rintro e w1 ⟨rfl, hb⟩
  replace O := hide ((unhide O).call hb)
  clear hb
  have a0 : w1.cell? ⟨W.heap.size, 0, none⟩ = some (.int .u64 a) := by rw [cell_of_block ((unhide O).at W.heap.size (.cells #[.int .u64 a, .int .u64 b, .int .u64 c] 39) (by simp))]; rfl
  have a1 : w1.cell? ⟨W.heap.size, 1, none⟩ = some (.int .u64 b) := by rw [cell_of_block ((unhide O).at W.heap.size (.cells #[.int .u64 a, .int .u64 b, .int .u64 c] 39) (by simp))]; rfl
  have a2 : w1.cell? ⟨W.heap.size, 2, none⟩ = some (.int .u64 c) := by rw [cell_of_block ((unhide O).at W.heap.size (.cells #[.int .u64 a, .int .u64 b, .int .u64 c] 39) (by simp))]; rfl
  have b0 : w1.cell? ⟨W.heap.size + 1, 0, none⟩ = some (.int .i64 x) := by rw [cell_of_block ((unhide O).at (W.heap.size + 1) (.cells #[.int .i64 x, .int .i64 y] 35) (by simp))]; rfl
  have b1 : w1.cell? ⟨W.heap.size + 1, 1, none⟩ = some (.int .i64 y) := by rw [cell_of_block ((unhide O).at (W.heap.size + 1) (.cells #[.int .i64 x, .int .i64 y] 35) (by simp))]; rfl
  go_wp2_with fail
  refine (unhide CO1 _).mono ?_
  rintro e w2 ⟨rfl, hb⟩
  replace O := hide (((unhide O).call hb).alloc (.cells A 23))
  clear hb a0 a1 a2 b0 b1
  have a0 : (w2.alloc (.cells A 23)).cell? ⟨W.heap.size, 0, none⟩ = some (.int .u64 a) := by rw [cell_of_block ((unhide O).at W.heap.size (.cells #[.int .u64 a, .int .u64 b, .int .u64 c] 39) (by simp))]; rfl
  have a1 : (w2.alloc (.cells A 23)).cell? ⟨W.heap.size, 1, none⟩ = some (.int .u64 b) := by rw [cell_of_block ((unhide O).at W.heap.size (.cells #[.int .u64 a, .int .u64 b, .int .u64 c] 39) (by simp))]; rfl
  have a2 : (w2.alloc (.cells A 23)).cell? ⟨W.heap.size, 2, none⟩ = some (.int .u64 c) := by rw [cell_of_block ((unhide O).at W.heap.size (.cells #[.int .u64 a, .int .u64 b, .int .u64 c] 39) (by simp))]; rfl
  have b0 : (w2.alloc (.cells A 23)).cell? ⟨W.heap.size + 1, 0, none⟩ = some (.int .i64 x) := by rw [cell_of_block ((unhide O).at (W.heap.size + 1) (.cells #[.int .i64 x, .int .i64 y] 35) (by simp))]; rfl
  have b1 : (w2.alloc (.cells A 23)).cell? ⟨W.heap.size + 1, 1, none⟩ = some (.int .i64 y) := by rw [cell_of_block ((unhide O).at (W.heap.size + 1) (.cells #[.int .i64 x, .int .i64 y] 35) (by simp))]; rfl
  go_wp2_with fail
  refine (unhide CI00 _).mono ?_
  rintro e w3 ⟨rfl, hb⟩
  replace O := hide ((unhide O).call hb)
  clear hb a0 a1 a2 b0 b1
  have a0 : w3.cell? ⟨W.heap.size, 0, none⟩ = some (.int .u64 a) := by rw [cell_of_block ((unhide O).at W.heap.size (.cells #[.int .u64 a, .int .u64 b, .int .u64 c] 39) (by simp))]; rfl
  have a1 : w3.cell? ⟨W.heap.size, 1, none⟩ = some (.int .u64 b) := by rw [cell_of_block ((unhide O).at W.heap.size (.cells #[.int .u64 a, .int .u64 b, .int .u64 c] 39) (by simp))]; rfl
  have a2 : w3.cell? ⟨W.heap.size, 2, none⟩ = some (.int .u64 c) := by rw [cell_of_block ((unhide O).at W.heap.size (.cells #[.int .u64 a, .int .u64 b, .int .u64 c] 39) (by simp))]; rfl
  have b0 : w3.cell? ⟨W.heap.size + 1, 0, none⟩ = some (.int .i64 x) := by rw [cell_of_block ((unhide O).at (W.heap.size + 1) (.cells #[.int .i64 x, .int .i64 y] 35) (by simp))]; rfl
  have b1 : w3.cell? ⟨W.heap.size + 1, 1, none⟩ = some (.int .i64 y) := by rw [cell_of_block ((unhide O).at (W.heap.size + 1) (.cells #[.int .i64 x, .int .i64 y] 35) (by simp))]; rfl
  go_wp2_with fail
  refine (unhide CI01 _).mono ?_
  rintro e w4 ⟨rfl, hb⟩
  replace O := hide ((unhide O).call hb)
  clear hb a0 a1 a2 b0 b1
  have a0 : w4.cell? ⟨W.heap.size, 0, none⟩ = some (.int .u64 a) := by rw [cell_of_block ((unhide O).at W.heap.size (.cells #[.int .u64 a, .int .u64 b, .int .u64 c] 39) (by simp))]; rfl
  have a1 : w4.cell? ⟨W.heap.size, 1, none⟩ = some (.int .u64 b) := by rw [cell_of_block ((unhide O).at W.heap.size (.cells #[.int .u64 a, .int .u64 b, .int .u64 c] 39) (by simp))]; rfl
  have a2 : w4.cell? ⟨W.heap.size, 2, none⟩ = some (.int .u64 c) := by rw [cell_of_block ((unhide O).at W.heap.size (.cells #[.int .u64 a, .int .u64 b, .int .u64 c] 39) (by simp))]; rfl
  have b0 : w4.cell? ⟨W.heap.size + 1, 0, none⟩ = some (.int .i64 x) := by rw [cell_of_block ((unhide O).at (W.heap.size + 1) (.cells #[.int .i64 x, .int .i64 y] 35) (by simp))]; rfl
  have b1 : w4.cell? ⟨W.heap.size + 1, 1, none⟩ = some (.int .i64 y) := by rw [cell_of_block ((unhide O).at (W.heap.size + 1) (.cells #[.int .i64 x, .int .i64 y] 35) (by simp))]; rfl
  go_wp2_with fail
  refine (unhide CI12 _).mono ?_
  rintro e w5 ⟨rfl, hb⟩
  replace O := hide ((unhide O).call hb)
  clear hb a0 a1 a2 b0 b1
  have a0 : w5.cell? ⟨W.heap.size, 0, none⟩ = some (.int .u64 a) := by rw [cell_of_block ((unhide O).at W.heap.size (.cells #[.int .u64 a, .int .u64 b, .int .u64 c] 39) (by simp))]; rfl
  have a1 : w5.cell? ⟨W.heap.size, 1, none⟩ = some (.int .u64 b) := by rw [cell_of_block ((unhide O).at W.heap.size (.cells #[.int .u64 a, .int .u64 b, .int .u64 c] 39) (by simp))]; rfl
  have a2 : w5.cell? ⟨W.heap.size, 2, none⟩ = some (.int .u64 c) := by rw [cell_of_block ((unhide O).at W.heap.size (.cells #[.int .u64 a, .int .u64 b, .int .u64 c] 39) (by simp))]; rfl
  have b0 : w5.cell? ⟨W.heap.size + 1, 0, none⟩ = some (.int .i64 x) := by rw [cell_of_block ((unhide O).at (W.heap.size + 1) (.cells #[.int .i64 x, .int .i64 y] 35) (by simp))]; rfl
  have b1 : w5.cell? ⟨W.heap.size + 1, 1, none⟩ = some (.int .i64 y) := by rw [cell_of_block ((unhide O).at (W.heap.size + 1) (.cells #[.int .i64 x, .int .i64 y] 35) (by simp))]; rfl
  go_wp2_with fail
  refine (unhide CI02 _).mono ?_
  rintro e w6 ⟨rfl, hb⟩
  replace O := hide ((unhide O).call hb)
  clear hb a0 a1 a2 b0 b1
  have a0 : w6.cell? ⟨W.heap.size, 0, none⟩ = some (.int .u64 a) := by rw [cell_of_block ((unhide O).at W.heap.size (.cells #[.int .u64 a, .int .u64 b, .int .u64 c] 39) (by simp))]; rfl
  have a1 : w6.cell? ⟨W.heap.size, 1, none⟩ = some (.int .u64 b) := by rw [cell_of_block ((unhide O).at W.heap.size (.cells #[.int .u64 a, .int .u64 b, .int .u64 c] 39) (by simp))]; rfl
  have a2 : w6.cell? ⟨W.heap.size, 2, none⟩ = some (.int .u64 c) := by rw [cell_of_block ((unhide O).at W.heap.size (.cells #[.int .u64 a, .int .u64 b, .int .u64 c] 39) (by simp))]; rfl
  have b0 : w6.cell? ⟨W.heap.size + 1, 0, none⟩ = some (.int .i64 x) := by rw [cell_of_block ((unhide O).at (W.heap.size + 1) (.cells #[.int .i64 x, .int .i64 y] 35) (by simp))]; rfl
  have b1 : w6.cell? ⟨W.heap.size + 1, 1, none⟩ = some (.int .i64 y) := by rw [cell_of_block ((unhide O).at (W.heap.size + 1) (.cells #[.int .i64 x, .int .i64 y] 35) (by simp))]; rfl
  go_wp2_with fail
  refine (unhide CI01 _).mono ?_
  rintro e w7 ⟨rfl, hb⟩
  replace O := hide ((unhide O).call hb)
  clear hb a0 a1 a2 b0 b1
  have a0 : w7.cell? ⟨W.heap.size, 0, none⟩ = some (.int .u64 a) := by rw [cell_of_block ((unhide O).at W.heap.size (.cells #[.int .u64 a, .int .u64 b, .int .u64 c] 39) (by simp))]; rfl
  have a1 : w7.cell? ⟨W.heap.size, 1, none⟩ = some (.int .u64 b) := by rw [cell_of_block ((unhide O).at W.heap.size (.cells #[.int .u64 a, .int .u64 b, .int .u64 c] 39) (by simp))]; rfl
  have a2 : w7.cell? ⟨W.heap.size, 2, none⟩ = some (.int .u64 c) := by rw [cell_of_block ((unhide O).at W.heap.size (.cells #[.int .u64 a, .int .u64 b, .int .u64 c] 39) (by simp))]; rfl
  have b0 : w7.cell? ⟨W.heap.size + 1, 0, none⟩ = some (.int .i64 x) := by rw [cell_of_block ((unhide O).at (W.heap.size + 1) (.cells #[.int .i64 x, .int .i64 y] 35) (by simp))]; rfl
  have b1 : w7.cell? ⟨W.heap.size + 1, 1, none⟩ = some (.int .i64 y) := by rw [cell_of_block ((unhide O).at (W.heap.size + 1) (.cells #[.int .i64 x, .int .i64 y] 35) (by simp))]; rfl
  go_wp2_with fail
  refine (unhide CM0 _).mono ?_
  rintro e w8 ⟨rfl, hb⟩
  replace O := hide ((unhide O).call hb)
  clear hb a0 a1 a2 b0 b1
  have a0 : w8.cell? ⟨W.heap.size, 0, none⟩ = some (.int .u64 a) := by rw [cell_of_block ((unhide O).at W.heap.size (.cells #[.int .u64 a, .int .u64 b, .int .u64 c] 39) (by simp))]; rfl
  have a1 : w8.cell? ⟨W.heap.size, 1, none⟩ = some (.int .u64 b) := by rw [cell_of_block ((unhide O).at W.heap.size (.cells #[.int .u64 a, .int .u64 b, .int .u64 c] 39) (by simp))]; rfl
  have a2 : w8.cell? ⟨W.heap.size, 2, none⟩ = some (.int .u64 c) := by rw [cell_of_block ((unhide O).at W.heap.size (.cells #[.int .u64 a, .int .u64 b, .int .u64 c] 39) (by simp))]; rfl
  have b0 : w8.cell? ⟨W.heap.size + 1, 0, none⟩ = some (.int .i64 x) := by rw [cell_of_block ((unhide O).at (W.heap.size + 1) (.cells #[.int .i64 x, .int .i64 y] 35) (by simp))]; rfl
  have b1 : w8.cell? ⟨W.heap.size + 1, 1, none⟩ = some (.int .i64 y) := by rw [cell_of_block ((unhide O).at (W.heap.size + 1) (.cells #[.int .i64 x, .int .i64 y] 35) (by simp))]; rfl
  go_wp2_with fail
  refine (unhide CO1 _).mono ?_
  rintro e w9 ⟨rfl, hb⟩
  replace O := hide (((unhide O).call hb).alloc (.cells A 23))
  clear hb a0 a1 a2 b0 b1
  have a0 : (w9.alloc (.cells A 23)).cell? ⟨W.heap.size, 0, none⟩ = some (.int .u64 a) := by rw [cell_of_block ((unhide O).at W.heap.size (.cells #[.int .u64 a, .int .u64 b, .int .u64 c] 39) (by simp))]; rfl
  have a1 : (w9.alloc (.cells A 23)).cell? ⟨W.heap.size, 1, none⟩ = some (.int .u64 b) := by rw [cell_of_block ((unhide O).at W.heap.size (.cells #[.int .u64 a, .int .u64 b, .int .u64 c] 39) (by simp))]; rfl
  have a2 : (w9.alloc (.cells A 23)).cell? ⟨W.heap.size, 2, none⟩ = some (.int .u64 c) := by rw [cell_of_block ((unhide O).at W.heap.size (.cells #[.int .u64 a, .int .u64 b, .int .u64 c] 39) (by simp))]; rfl
  have b0 : (w9.alloc (.cells A 23)).cell? ⟨W.heap.size + 1, 0, none⟩ = some (.int .i64 x) := by rw [cell_of_block ((unhide O).at (W.heap.size + 1) (.cells #[.int .i64 x, .int .i64 y] 35) (by simp))]; rfl
  have b1 : (w9.alloc (.cells A 23)).cell? ⟨W.heap.size + 1, 1, none⟩ = some (.int .i64 y) := by rw [cell_of_block ((unhide O).at (W.heap.size + 1) (.cells #[.int .i64 x, .int .i64 y] 35) (by simp))]; rfl
  go_wp2_with fail
  refine (unhide CO2 _).mono ?_
  rintro e w10 ⟨rfl, hb⟩
  replace O := hide (((unhide O).call hb).alloc (.cells B 23))
  clear hb a0 a1 a2 b0 b1
  have a0 : (w10.alloc (.cells B 23)).cell? ⟨W.heap.size, 0, none⟩ = some (.int .u64 a) := by rw [cell_of_block ((unhide O).at W.heap.size (.cells #[.int .u64 a, .int .u64 b, .int .u64 c] 39) (by simp))]; rfl
  have a1 : (w10.alloc (.cells B 23)).cell? ⟨W.heap.size, 1, none⟩ = some (.int .u64 b) := by rw [cell_of_block ((unhide O).at W.heap.size (.cells #[.int .u64 a, .int .u64 b, .int .u64 c] 39) (by simp))]; rfl
  have a2 : (w10.alloc (.cells B 23)).cell? ⟨W.heap.size, 2, none⟩ = some (.int .u64 c) := by rw [cell_of_block ((unhide O).at W.heap.size (.cells #[.int .u64 a, .int .u64 b, .int .u64 c] 39) (by simp))]; rfl
  have b0 : (w10.alloc (.cells B 23)).cell? ⟨W.heap.size + 1, 0, none⟩ = some (.int .i64 x) := by rw [cell_of_block ((unhide O).at (W.heap.size + 1) (.cells #[.int .i64 x, .int .i64 y] 35) (by simp))]; rfl
  have b1 : (w10.alloc (.cells B 23)).cell? ⟨W.heap.size + 1, 1, none⟩ = some (.int .i64 y) := by rw [cell_of_block ((unhide O).at (W.heap.size + 1) (.cells #[.int .i64 x, .int .i64 y] 35) (by simp))]; rfl
  go_wp2_with fail
  refine (unhide CI01 _).mono ?_
  rintro e w11 ⟨rfl, hb⟩
  replace O := hide ((unhide O).call hb)
  clear hb a0 a1 a2 b0 b1
  have a0 : w11.cell? ⟨W.heap.size, 0, none⟩ = some (.int .u64 a) := by rw [cell_of_block ((unhide O).at W.heap.size (.cells #[.int .u64 a, .int .u64 b, .int .u64 c] 39) (by simp))]; rfl
  have a1 : w11.cell? ⟨W.heap.size, 1, none⟩ = some (.int .u64 b) := by rw [cell_of_block ((unhide O).at W.heap.size (.cells #[.int .u64 a, .int .u64 b, .int .u64 c] 39) (by simp))]; rfl
  have a2 : w11.cell? ⟨W.heap.size, 2, none⟩ = some (.int .u64 c) := by rw [cell_of_block ((unhide O).at W.heap.size (.cells #[.int .u64 a, .int .u64 b, .int .u64 c] 39) (by simp))]; rfl
  have b0 : w11.cell? ⟨W.heap.size + 1, 0, none⟩ = some (.int .i64 x) := by rw [cell_of_block ((unhide O).at (W.heap.size + 1) (.cells #[.int .i64 x, .int .i64 y] 35) (by simp))]; rfl
  have b1 : w11.cell? ⟨W.heap.size + 1, 1, none⟩ = some (.int .i64 y) := by rw [cell_of_block ((unhide O).at (W.heap.size + 1) (.cells #[.int .i64 x, .int .i64 y] 35) (by simp))]; rfl
  go_wp2_with fail
  refine (unhide CI10 _).mono ?_
  rintro e w12 ⟨rfl, hb⟩
  replace O := hide ((unhide O).call hb)
  clear hb a0 a1 a2 b0 b1
  have a0 : w12.cell? ⟨W.heap.size, 0, none⟩ = some (.int .u64 a) := by rw [cell_of_block ((unhide O).at W.heap.size (.cells #[.int .u64 a, .int .u64 b, .int .u64 c] 39) (by simp))]; rfl
  have a1 : w12.cell? ⟨W.heap.size, 1, none⟩ = some (.int .u64 b) := by rw [cell_of_block ((unhide O).at W.heap.size (.cells #[.int .u64 a, .int .u64 b, .int .u64 c] 39) (by simp))]; rfl
  have a2 : w12.cell? ⟨W.heap.size, 2, none⟩ = some (.int .u64 c) := by rw [cell_of_block ((unhide O).at W.heap.size (.cells #[.int .u64 a, .int .u64 b, .int .u64 c] 39) (by simp))]; rfl
  have b0 : w12.cell? ⟨W.heap.size + 1, 0, none⟩ = some (.int .i64 x) := by rw [cell_of_block ((unhide O).at (W.heap.size + 1) (.cells #[.int .i64 x, .int .i64 y] 35) (by simp))]; rfl
  have b1 : w12.cell? ⟨W.heap.size + 1, 1, none⟩ = some (.int .i64 y) := by rw [cell_of_block ((unhide O).at (W.heap.size + 1) (.cells #[.int .i64 x, .int .i64 y] 35) (by simp))]; rfl
  have r0 : w12.cell? ⟨w9.heap.size, 1, none⟩ = some (.int .i64 ra) := by rw [cell_of_block ((unhide O).at w9.heap.size (.cells A 23) (by simp))]; exact rA
  have r1 : w12.cell? ⟨w10.heap.size, 1, none⟩ = some (.int .i64 rb) := by rw [cell_of_block ((unhide O).at w10.heap.size (.cells B 23) (by simp))]; exact rB
  go_wp2_with fail
  go_ret
  exact ⟨rfl, (unhide O).below⟩
set_option maxHeartbeats 4000000 in
set_option maxRecDepth 100000 in
theorem way_QNN (a b c x y : Int) (A B : Array Value) (p q R : Bool) (E0 E1 ra rb : Int) (H : Ans a b c x y A B p q true true true false E0 E1 ra rb) (hE : (E0 == 0) = false) (W : World) :
    Calls Try.prog 8 #[.agg #[.int .u64 a, .int .u64 b, .int .u64 c], .agg #[.int .i64 x, .int .i64 y]] W fun e W' => e = .returned (.bool true) ∧ Below W.heap.size W W' := by
  obtain ⟨CO1, CO2, CI00, CI01, CI12, CI02, CI10, CM0, CM1, nA, zA, nB, zB, rA, rB⟩ := H
  have hp : (p == p) = true := by simp
  have O := hide (((Own.start W).alloc (.cells #[.int .u64 a, .int .u64 b, .int .u64 c] 39)).alloc (.cells #[.int .i64 x, .int .i64 y] 35))
  have g0 : (W.alloc (.cells #[.int .u64 a, .int .u64 b, .int .u64 c] 39)).heap.size = W.heap.size + 1 := by simp
  rw [g0] at O
  clear g0
  go_enter Try.func8, Try.ntmps8
  go_wp2_with fail
  refine (shown7_any _).mono ?_
  rintro e w1 ⟨rfl, hb⟩
  replace O := hide ((unhide O).call hb)
  clear hb
  have a0 : w1.cell? ⟨W.heap.size, 0, none⟩ = some (.int .u64 a) := by rw [cell_of_block ((unhide O).at W.heap.size (.cells #[.int .u64 a, .int .u64 b, .int .u64 c] 39) (by simp))]; rfl
  have a1 : w1.cell? ⟨W.heap.size, 1, none⟩ = some (.int .u64 b) := by rw [cell_of_block ((unhide O).at W.heap.size (.cells #[.int .u64 a, .int .u64 b, .int .u64 c] 39) (by simp))]; rfl
  have a2 : w1.cell? ⟨W.heap.size, 2, none⟩ = some (.int .u64 c) := by rw [cell_of_block ((unhide O).at W.heap.size (.cells #[.int .u64 a, .int .u64 b, .int .u64 c] 39) (by simp))]; rfl
  have b0 : w1.cell? ⟨W.heap.size + 1, 0, none⟩ = some (.int .i64 x) := by rw [cell_of_block ((unhide O).at (W.heap.size + 1) (.cells #[.int .i64 x, .int .i64 y] 35) (by simp))]; rfl
  have b1 : w1.cell? ⟨W.heap.size + 1, 1, none⟩ = some (.int .i64 y) := by rw [cell_of_block ((unhide O).at (W.heap.size + 1) (.cells #[.int .i64 x, .int .i64 y] 35) (by simp))]; rfl
  go_wp2_with fail
  refine (unhide CO1 _).mono ?_
  rintro e w2 ⟨rfl, hb⟩
  replace O := hide (((unhide O).call hb).alloc (.cells A 23))
  clear hb a0 a1 a2 b0 b1
  have a0 : (w2.alloc (.cells A 23)).cell? ⟨W.heap.size, 0, none⟩ = some (.int .u64 a) := by rw [cell_of_block ((unhide O).at W.heap.size (.cells #[.int .u64 a, .int .u64 b, .int .u64 c] 39) (by simp))]; rfl
  have a1 : (w2.alloc (.cells A 23)).cell? ⟨W.heap.size, 1, none⟩ = some (.int .u64 b) := by rw [cell_of_block ((unhide O).at W.heap.size (.cells #[.int .u64 a, .int .u64 b, .int .u64 c] 39) (by simp))]; rfl
  have a2 : (w2.alloc (.cells A 23)).cell? ⟨W.heap.size, 2, none⟩ = some (.int .u64 c) := by rw [cell_of_block ((unhide O).at W.heap.size (.cells #[.int .u64 a, .int .u64 b, .int .u64 c] 39) (by simp))]; rfl
  have b0 : (w2.alloc (.cells A 23)).cell? ⟨W.heap.size + 1, 0, none⟩ = some (.int .i64 x) := by rw [cell_of_block ((unhide O).at (W.heap.size + 1) (.cells #[.int .i64 x, .int .i64 y] 35) (by simp))]; rfl
  have b1 : (w2.alloc (.cells A 23)).cell? ⟨W.heap.size + 1, 1, none⟩ = some (.int .i64 y) := by rw [cell_of_block ((unhide O).at (W.heap.size + 1) (.cells #[.int .i64 x, .int .i64 y] 35) (by simp))]; rfl
  go_wp2_with fail
  refine (unhide CI00 _).mono ?_
  rintro e w3 ⟨rfl, hb⟩
  replace O := hide ((unhide O).call hb)
  clear hb a0 a1 a2 b0 b1
  have a0 : w3.cell? ⟨W.heap.size, 0, none⟩ = some (.int .u64 a) := by rw [cell_of_block ((unhide O).at W.heap.size (.cells #[.int .u64 a, .int .u64 b, .int .u64 c] 39) (by simp))]; rfl
  have a1 : w3.cell? ⟨W.heap.size, 1, none⟩ = some (.int .u64 b) := by rw [cell_of_block ((unhide O).at W.heap.size (.cells #[.int .u64 a, .int .u64 b, .int .u64 c] 39) (by simp))]; rfl
  have a2 : w3.cell? ⟨W.heap.size, 2, none⟩ = some (.int .u64 c) := by rw [cell_of_block ((unhide O).at W.heap.size (.cells #[.int .u64 a, .int .u64 b, .int .u64 c] 39) (by simp))]; rfl
  have b0 : w3.cell? ⟨W.heap.size + 1, 0, none⟩ = some (.int .i64 x) := by rw [cell_of_block ((unhide O).at (W.heap.size + 1) (.cells #[.int .i64 x, .int .i64 y] 35) (by simp))]; rfl
  have b1 : w3.cell? ⟨W.heap.size + 1, 1, none⟩ = some (.int .i64 y) := by rw [cell_of_block ((unhide O).at (W.heap.size + 1) (.cells #[.int .i64 x, .int .i64 y] 35) (by simp))]; rfl
  go_wp2_with fail
  refine (unhide CI01 _).mono ?_
  rintro e w4 ⟨rfl, hb⟩
  replace O := hide ((unhide O).call hb)
  clear hb a0 a1 a2 b0 b1
  have a0 : w4.cell? ⟨W.heap.size, 0, none⟩ = some (.int .u64 a) := by rw [cell_of_block ((unhide O).at W.heap.size (.cells #[.int .u64 a, .int .u64 b, .int .u64 c] 39) (by simp))]; rfl
  have a1 : w4.cell? ⟨W.heap.size, 1, none⟩ = some (.int .u64 b) := by rw [cell_of_block ((unhide O).at W.heap.size (.cells #[.int .u64 a, .int .u64 b, .int .u64 c] 39) (by simp))]; rfl
  have a2 : w4.cell? ⟨W.heap.size, 2, none⟩ = some (.int .u64 c) := by rw [cell_of_block ((unhide O).at W.heap.size (.cells #[.int .u64 a, .int .u64 b, .int .u64 c] 39) (by simp))]; rfl
  have b0 : w4.cell? ⟨W.heap.size + 1, 0, none⟩ = some (.int .i64 x) := by rw [cell_of_block ((unhide O).at (W.heap.size + 1) (.cells #[.int .i64 x, .int .i64 y] 35) (by simp))]; rfl
  have b1 : w4.cell? ⟨W.heap.size + 1, 1, none⟩ = some (.int .i64 y) := by rw [cell_of_block ((unhide O).at (W.heap.size + 1) (.cells #[.int .i64 x, .int .i64 y] 35) (by simp))]; rfl
  go_wp2_with fail
  refine (unhide CI12 _).mono ?_
  rintro e w5 ⟨rfl, hb⟩
  replace O := hide ((unhide O).call hb)
  clear hb a0 a1 a2 b0 b1
  have a0 : w5.cell? ⟨W.heap.size, 0, none⟩ = some (.int .u64 a) := by rw [cell_of_block ((unhide O).at W.heap.size (.cells #[.int .u64 a, .int .u64 b, .int .u64 c] 39) (by simp))]; rfl
  have a1 : w5.cell? ⟨W.heap.size, 1, none⟩ = some (.int .u64 b) := by rw [cell_of_block ((unhide O).at W.heap.size (.cells #[.int .u64 a, .int .u64 b, .int .u64 c] 39) (by simp))]; rfl
  have a2 : w5.cell? ⟨W.heap.size, 2, none⟩ = some (.int .u64 c) := by rw [cell_of_block ((unhide O).at W.heap.size (.cells #[.int .u64 a, .int .u64 b, .int .u64 c] 39) (by simp))]; rfl
  have b0 : w5.cell? ⟨W.heap.size + 1, 0, none⟩ = some (.int .i64 x) := by rw [cell_of_block ((unhide O).at (W.heap.size + 1) (.cells #[.int .i64 x, .int .i64 y] 35) (by simp))]; rfl
  have b1 : w5.cell? ⟨W.heap.size + 1, 1, none⟩ = some (.int .i64 y) := by rw [cell_of_block ((unhide O).at (W.heap.size + 1) (.cells #[.int .i64 x, .int .i64 y] 35) (by simp))]; rfl
  go_wp2_with fail
  refine (unhide CI02 _).mono ?_
  rintro e w6 ⟨rfl, hb⟩
  replace O := hide ((unhide O).call hb)
  clear hb a0 a1 a2 b0 b1
  have a0 : w6.cell? ⟨W.heap.size, 0, none⟩ = some (.int .u64 a) := by rw [cell_of_block ((unhide O).at W.heap.size (.cells #[.int .u64 a, .int .u64 b, .int .u64 c] 39) (by simp))]; rfl
  have a1 : w6.cell? ⟨W.heap.size, 1, none⟩ = some (.int .u64 b) := by rw [cell_of_block ((unhide O).at W.heap.size (.cells #[.int .u64 a, .int .u64 b, .int .u64 c] 39) (by simp))]; rfl
  have a2 : w6.cell? ⟨W.heap.size, 2, none⟩ = some (.int .u64 c) := by rw [cell_of_block ((unhide O).at W.heap.size (.cells #[.int .u64 a, .int .u64 b, .int .u64 c] 39) (by simp))]; rfl
  have b0 : w6.cell? ⟨W.heap.size + 1, 0, none⟩ = some (.int .i64 x) := by rw [cell_of_block ((unhide O).at (W.heap.size + 1) (.cells #[.int .i64 x, .int .i64 y] 35) (by simp))]; rfl
  have b1 : w6.cell? ⟨W.heap.size + 1, 1, none⟩ = some (.int .i64 y) := by rw [cell_of_block ((unhide O).at (W.heap.size + 1) (.cells #[.int .i64 x, .int .i64 y] 35) (by simp))]; rfl
  go_wp2_with fail
  refine (unhide CI01 _).mono ?_
  rintro e w7 ⟨rfl, hb⟩
  replace O := hide ((unhide O).call hb)
  clear hb a0 a1 a2 b0 b1
  have a0 : w7.cell? ⟨W.heap.size, 0, none⟩ = some (.int .u64 a) := by rw [cell_of_block ((unhide O).at W.heap.size (.cells #[.int .u64 a, .int .u64 b, .int .u64 c] 39) (by simp))]; rfl
  have a1 : w7.cell? ⟨W.heap.size, 1, none⟩ = some (.int .u64 b) := by rw [cell_of_block ((unhide O).at W.heap.size (.cells #[.int .u64 a, .int .u64 b, .int .u64 c] 39) (by simp))]; rfl
  have a2 : w7.cell? ⟨W.heap.size, 2, none⟩ = some (.int .u64 c) := by rw [cell_of_block ((unhide O).at W.heap.size (.cells #[.int .u64 a, .int .u64 b, .int .u64 c] 39) (by simp))]; rfl
  have b0 : w7.cell? ⟨W.heap.size + 1, 0, none⟩ = some (.int .i64 x) := by rw [cell_of_block ((unhide O).at (W.heap.size + 1) (.cells #[.int .i64 x, .int .i64 y] 35) (by simp))]; rfl
  have b1 : w7.cell? ⟨W.heap.size + 1, 1, none⟩ = some (.int .i64 y) := by rw [cell_of_block ((unhide O).at (W.heap.size + 1) (.cells #[.int .i64 x, .int .i64 y] 35) (by simp))]; rfl
  go_wp2_with fail
  refine (unhide CM0 _).mono ?_
  rintro e w8 ⟨rfl, hb⟩
  replace O := hide ((unhide O).call hb)
  clear hb a0 a1 a2 b0 b1
  have a0 : w8.cell? ⟨W.heap.size, 0, none⟩ = some (.int .u64 a) := by rw [cell_of_block ((unhide O).at W.heap.size (.cells #[.int .u64 a, .int .u64 b, .int .u64 c] 39) (by simp))]; rfl
  have a1 : w8.cell? ⟨W.heap.size, 1, none⟩ = some (.int .u64 b) := by rw [cell_of_block ((unhide O).at W.heap.size (.cells #[.int .u64 a, .int .u64 b, .int .u64 c] 39) (by simp))]; rfl
  have a2 : w8.cell? ⟨W.heap.size, 2, none⟩ = some (.int .u64 c) := by rw [cell_of_block ((unhide O).at W.heap.size (.cells #[.int .u64 a, .int .u64 b, .int .u64 c] 39) (by simp))]; rfl
  have b0 : w8.cell? ⟨W.heap.size + 1, 0, none⟩ = some (.int .i64 x) := by rw [cell_of_block ((unhide O).at (W.heap.size + 1) (.cells #[.int .i64 x, .int .i64 y] 35) (by simp))]; rfl
  have b1 : w8.cell? ⟨W.heap.size + 1, 1, none⟩ = some (.int .i64 y) := by rw [cell_of_block ((unhide O).at (W.heap.size + 1) (.cells #[.int .i64 x, .int .i64 y] 35) (by simp))]; rfl
  go_wp2_with fail
  refine (unhide CO1 _).mono ?_
  rintro e w9 ⟨rfl, hb⟩
  replace O := hide (((unhide O).call hb).alloc (.cells A 23))
  clear hb a0 a1 a2 b0 b1
  have a0 : (w9.alloc (.cells A 23)).cell? ⟨W.heap.size, 0, none⟩ = some (.int .u64 a) := by rw [cell_of_block ((unhide O).at W.heap.size (.cells #[.int .u64 a, .int .u64 b, .int .u64 c] 39) (by simp))]; rfl
  have a1 : (w9.alloc (.cells A 23)).cell? ⟨W.heap.size, 1, none⟩ = some (.int .u64 b) := by rw [cell_of_block ((unhide O).at W.heap.size (.cells #[.int .u64 a, .int .u64 b, .int .u64 c] 39) (by simp))]; rfl
  have a2 : (w9.alloc (.cells A 23)).cell? ⟨W.heap.size, 2, none⟩ = some (.int .u64 c) := by rw [cell_of_block ((unhide O).at W.heap.size (.cells #[.int .u64 a, .int .u64 b, .int .u64 c] 39) (by simp))]; rfl
  have b0 : (w9.alloc (.cells A 23)).cell? ⟨W.heap.size + 1, 0, none⟩ = some (.int .i64 x) := by rw [cell_of_block ((unhide O).at (W.heap.size + 1) (.cells #[.int .i64 x, .int .i64 y] 35) (by simp))]; rfl
  have b1 : (w9.alloc (.cells A 23)).cell? ⟨W.heap.size + 1, 1, none⟩ = some (.int .i64 y) := by rw [cell_of_block ((unhide O).at (W.heap.size + 1) (.cells #[.int .i64 x, .int .i64 y] 35) (by simp))]; rfl
  go_wp2_with fail
  refine (unhide CO2 _).mono ?_
  rintro e w10 ⟨rfl, hb⟩
  replace O := hide (((unhide O).call hb).alloc (.cells B 23))
  clear hb a0 a1 a2 b0 b1
  have a0 : (w10.alloc (.cells B 23)).cell? ⟨W.heap.size, 0, none⟩ = some (.int .u64 a) := by rw [cell_of_block ((unhide O).at W.heap.size (.cells #[.int .u64 a, .int .u64 b, .int .u64 c] 39) (by simp))]; rfl
  have a1 : (w10.alloc (.cells B 23)).cell? ⟨W.heap.size, 1, none⟩ = some (.int .u64 b) := by rw [cell_of_block ((unhide O).at W.heap.size (.cells #[.int .u64 a, .int .u64 b, .int .u64 c] 39) (by simp))]; rfl
  have a2 : (w10.alloc (.cells B 23)).cell? ⟨W.heap.size, 2, none⟩ = some (.int .u64 c) := by rw [cell_of_block ((unhide O).at W.heap.size (.cells #[.int .u64 a, .int .u64 b, .int .u64 c] 39) (by simp))]; rfl
  have b0 : (w10.alloc (.cells B 23)).cell? ⟨W.heap.size + 1, 0, none⟩ = some (.int .i64 x) := by rw [cell_of_block ((unhide O).at (W.heap.size + 1) (.cells #[.int .i64 x, .int .i64 y] 35) (by simp))]; rfl
  have b1 : (w10.alloc (.cells B 23)).cell? ⟨W.heap.size + 1, 1, none⟩ = some (.int .i64 y) := by rw [cell_of_block ((unhide O).at (W.heap.size + 1) (.cells #[.int .i64 x, .int .i64 y] 35) (by simp))]; rfl
  go_wp2_with fail
  refine (unhide CI01 _).mono ?_
  rintro e w11 ⟨rfl, hb⟩
  replace O := hide ((unhide O).call hb)
  clear hb a0 a1 a2 b0 b1
  have a0 : w11.cell? ⟨W.heap.size, 0, none⟩ = some (.int .u64 a) := by rw [cell_of_block ((unhide O).at W.heap.size (.cells #[.int .u64 a, .int .u64 b, .int .u64 c] 39) (by simp))]; rfl
  have a1 : w11.cell? ⟨W.heap.size, 1, none⟩ = some (.int .u64 b) := by rw [cell_of_block ((unhide O).at W.heap.size (.cells #[.int .u64 a, .int .u64 b, .int .u64 c] 39) (by simp))]; rfl
  have a2 : w11.cell? ⟨W.heap.size, 2, none⟩ = some (.int .u64 c) := by rw [cell_of_block ((unhide O).at W.heap.size (.cells #[.int .u64 a, .int .u64 b, .int .u64 c] 39) (by simp))]; rfl
  have b0 : w11.cell? ⟨W.heap.size + 1, 0, none⟩ = some (.int .i64 x) := by rw [cell_of_block ((unhide O).at (W.heap.size + 1) (.cells #[.int .i64 x, .int .i64 y] 35) (by simp))]; rfl
  have b1 : w11.cell? ⟨W.heap.size + 1, 1, none⟩ = some (.int .i64 y) := by rw [cell_of_block ((unhide O).at (W.heap.size + 1) (.cells #[.int .i64 x, .int .i64 y] 35) (by simp))]; rfl
  go_wp2_with fail
  refine (unhide CI10 _).mono ?_
  rintro e w12 ⟨rfl, hb⟩
  replace O := hide ((unhide O).call hb)
  clear hb a0 a1 a2 b0 b1
  have a0 : w12.cell? ⟨W.heap.size, 0, none⟩ = some (.int .u64 a) := by rw [cell_of_block ((unhide O).at W.heap.size (.cells #[.int .u64 a, .int .u64 b, .int .u64 c] 39) (by simp))]; rfl
  have a1 : w12.cell? ⟨W.heap.size, 1, none⟩ = some (.int .u64 b) := by rw [cell_of_block ((unhide O).at W.heap.size (.cells #[.int .u64 a, .int .u64 b, .int .u64 c] 39) (by simp))]; rfl
  have a2 : w12.cell? ⟨W.heap.size, 2, none⟩ = some (.int .u64 c) := by rw [cell_of_block ((unhide O).at W.heap.size (.cells #[.int .u64 a, .int .u64 b, .int .u64 c] 39) (by simp))]; rfl
  have b0 : w12.cell? ⟨W.heap.size + 1, 0, none⟩ = some (.int .i64 x) := by rw [cell_of_block ((unhide O).at (W.heap.size + 1) (.cells #[.int .i64 x, .int .i64 y] 35) (by simp))]; rfl
  have b1 : w12.cell? ⟨W.heap.size + 1, 1, none⟩ = some (.int .i64 y) := by rw [cell_of_block ((unhide O).at (W.heap.size + 1) (.cells #[.int .i64 x, .int .i64 y] 35) (by simp))]; rfl
  go_wp2_with fail
  go_ret
  exact ⟨rfl, (unhide O).below⟩
set_option maxHeartbeats 4000000 in
set_option maxRecDepth 100000 in
theorem way_NZS (a b c x y : Int) (A B : Array Value) (p q R : Bool) (E0 E1 ra rb : Int) (H : Ans a b c x y A B p q true false R true 0 0 ra rb) (hr : (ra == rb) = true) (W : World) :
    Calls Try.prog 8 #[.agg #[.int .u64 a, .int .u64 b, .int .u64 c], .agg #[.int .i64 x, .int .i64 y]] W fun e W' => e = .returned (.bool true) ∧ Below W.heap.size W W' := by
  obtain ⟨CO1, CO2, CI00, CI01, CI12, CI02, CI10, CM0, CM1, nA, zA, nB, zB, rA, rB⟩ := H
  have hp : (p == p) = true := by simp
  have O := hide (((Own.start W).alloc (.cells #[.int .u64 a, .int .u64 b, .int .u64 c] 39)).alloc (.cells #[.int .i64 x, .int .i64 y] 35))
  have g0 : (W.alloc (.cells #[.int .u64 a, .int .u64 b, .int .u64 c] 39)).heap.size = W.heap.size + 1 := by simp
  rw [g0] at O
  clear g0
  go_enter Try.func8, Try.ntmps8
  go_wp2_with fail
  refine (shown7_any _).mono ?_
  rintro e w1 ⟨rfl, hb⟩
  replace O := hide ((unhide O).call hb)
  clear hb
  have a0 : w1.cell? ⟨W.heap.size, 0, none⟩ = some (.int .u64 a) := by rw [cell_of_block ((unhide O).at W.heap.size (.cells #[.int .u64 a, .int .u64 b, .int .u64 c] 39) (by simp))]; rfl
  have a1 : w1.cell? ⟨W.heap.size, 1, none⟩ = some (.int .u64 b) := by rw [cell_of_block ((unhide O).at W.heap.size (.cells #[.int .u64 a, .int .u64 b, .int .u64 c] 39) (by simp))]; rfl
  have a2 : w1.cell? ⟨W.heap.size, 2, none⟩ = some (.int .u64 c) := by rw [cell_of_block ((unhide O).at W.heap.size (.cells #[.int .u64 a, .int .u64 b, .int .u64 c] 39) (by simp))]; rfl
  have b0 : w1.cell? ⟨W.heap.size + 1, 0, none⟩ = some (.int .i64 x) := by rw [cell_of_block ((unhide O).at (W.heap.size + 1) (.cells #[.int .i64 x, .int .i64 y] 35) (by simp))]; rfl
  have b1 : w1.cell? ⟨W.heap.size + 1, 1, none⟩ = some (.int .i64 y) := by rw [cell_of_block ((unhide O).at (W.heap.size + 1) (.cells #[.int .i64 x, .int .i64 y] 35) (by simp))]; rfl
  go_wp2_with fail
  refine (unhide CO1 _).mono ?_
  rintro e w2 ⟨rfl, hb⟩
  replace O := hide (((unhide O).call hb).alloc (.cells A 23))
  clear hb a0 a1 a2 b0 b1
  have a0 : (w2.alloc (.cells A 23)).cell? ⟨W.heap.size, 0, none⟩ = some (.int .u64 a) := by rw [cell_of_block ((unhide O).at W.heap.size (.cells #[.int .u64 a, .int .u64 b, .int .u64 c] 39) (by simp))]; rfl
  have a1 : (w2.alloc (.cells A 23)).cell? ⟨W.heap.size, 1, none⟩ = some (.int .u64 b) := by rw [cell_of_block ((unhide O).at W.heap.size (.cells #[.int .u64 a, .int .u64 b, .int .u64 c] 39) (by simp))]; rfl
  have a2 : (w2.alloc (.cells A 23)).cell? ⟨W.heap.size, 2, none⟩ = some (.int .u64 c) := by rw [cell_of_block ((unhide O).at W.heap.size (.cells #[.int .u64 a, .int .u64 b, .int .u64 c] 39) (by simp))]; rfl
  have b0 : (w2.alloc (.cells A 23)).cell? ⟨W.heap.size + 1, 0, none⟩ = some (.int .i64 x) := by rw [cell_of_block ((unhide O).at (W.heap.size + 1) (.cells #[.int .i64 x, .int .i64 y] 35) (by simp))]; rfl
  have b1 : (w2.alloc (.cells A 23)).cell? ⟨W.heap.size + 1, 1, none⟩ = some (.int .i64 y) := by rw [cell_of_block ((unhide O).at (W.heap.size + 1) (.cells #[.int .i64 x, .int .i64 y] 35) (by simp))]; rfl
  go_wp2_with fail
  refine (unhide CI00 _).mono ?_
  rintro e w3 ⟨rfl, hb⟩
  replace O := hide ((unhide O).call hb)
  clear hb a0 a1 a2 b0 b1
  have a0 : w3.cell? ⟨W.heap.size, 0, none⟩ = some (.int .u64 a) := by rw [cell_of_block ((unhide O).at W.heap.size (.cells #[.int .u64 a, .int .u64 b, .int .u64 c] 39) (by simp))]; rfl
  have a1 : w3.cell? ⟨W.heap.size, 1, none⟩ = some (.int .u64 b) := by rw [cell_of_block ((unhide O).at W.heap.size (.cells #[.int .u64 a, .int .u64 b, .int .u64 c] 39) (by simp))]; rfl
  have a2 : w3.cell? ⟨W.heap.size, 2, none⟩ = some (.int .u64 c) := by rw [cell_of_block ((unhide O).at W.heap.size (.cells #[.int .u64 a, .int .u64 b, .int .u64 c] 39) (by simp))]; rfl
  have b0 : w3.cell? ⟨W.heap.size + 1, 0, none⟩ = some (.int .i64 x) := by rw [cell_of_block ((unhide O).at (W.heap.size + 1) (.cells #[.int .i64 x, .int .i64 y] 35) (by simp))]; rfl
  have b1 : w3.cell? ⟨W.heap.size + 1, 1, none⟩ = some (.int .i64 y) := by rw [cell_of_block ((unhide O).at (W.heap.size + 1) (.cells #[.int .i64 x, .int .i64 y] 35) (by simp))]; rfl
  go_wp2_with fail
  refine (unhide CI01 _).mono ?_
  rintro e w4 ⟨rfl, hb⟩
  replace O := hide ((unhide O).call hb)
  clear hb a0 a1 a2 b0 b1
  have a0 : w4.cell? ⟨W.heap.size, 0, none⟩ = some (.int .u64 a) := by rw [cell_of_block ((unhide O).at W.heap.size (.cells #[.int .u64 a, .int .u64 b, .int .u64 c] 39) (by simp))]; rfl
  have a1 : w4.cell? ⟨W.heap.size, 1, none⟩ = some (.int .u64 b) := by rw [cell_of_block ((unhide O).at W.heap.size (.cells #[.int .u64 a, .int .u64 b, .int .u64 c] 39) (by simp))]; rfl
  have a2 : w4.cell? ⟨W.heap.size, 2, none⟩ = some (.int .u64 c) := by rw [cell_of_block ((unhide O).at W.heap.size (.cells #[.int .u64 a, .int .u64 b, .int .u64 c] 39) (by simp))]; rfl
  have b0 : w4.cell? ⟨W.heap.size + 1, 0, none⟩ = some (.int .i64 x) := by rw [cell_of_block ((unhide O).at (W.heap.size + 1) (.cells #[.int .i64 x, .int .i64 y] 35) (by simp))]; rfl
  have b1 : w4.cell? ⟨W.heap.size + 1, 1, none⟩ = some (.int .i64 y) := by rw [cell_of_block ((unhide O).at (W.heap.size + 1) (.cells #[.int .i64 x, .int .i64 y] 35) (by simp))]; rfl
  go_wp2_with fail
  refine (unhide CI12 _).mono ?_
  rintro e w5 ⟨rfl, hb⟩
  replace O := hide ((unhide O).call hb)
  clear hb a0 a1 a2 b0 b1
  have a0 : w5.cell? ⟨W.heap.size, 0, none⟩ = some (.int .u64 a) := by rw [cell_of_block ((unhide O).at W.heap.size (.cells #[.int .u64 a, .int .u64 b, .int .u64 c] 39) (by simp))]; rfl
  have a1 : w5.cell? ⟨W.heap.size, 1, none⟩ = some (.int .u64 b) := by rw [cell_of_block ((unhide O).at W.heap.size (.cells #[.int .u64 a, .int .u64 b, .int .u64 c] 39) (by simp))]; rfl
  have a2 : w5.cell? ⟨W.heap.size, 2, none⟩ = some (.int .u64 c) := by rw [cell_of_block ((unhide O).at W.heap.size (.cells #[.int .u64 a, .int .u64 b, .int .u64 c] 39) (by simp))]; rfl
  have b0 : w5.cell? ⟨W.heap.size + 1, 0, none⟩ = some (.int .i64 x) := by rw [cell_of_block ((unhide O).at (W.heap.size + 1) (.cells #[.int .i64 x, .int .i64 y] 35) (by simp))]; rfl
  have b1 : w5.cell? ⟨W.heap.size + 1, 1, none⟩ = some (.int .i64 y) := by rw [cell_of_block ((unhide O).at (W.heap.size + 1) (.cells #[.int .i64 x, .int .i64 y] 35) (by simp))]; rfl
  go_wp2_with fail
  refine (unhide CI01 _).mono ?_
  rintro e w6 ⟨rfl, hb⟩
  replace O := hide ((unhide O).call hb)
  clear hb a0 a1 a2 b0 b1
  have a0 : w6.cell? ⟨W.heap.size, 0, none⟩ = some (.int .u64 a) := by rw [cell_of_block ((unhide O).at W.heap.size (.cells #[.int .u64 a, .int .u64 b, .int .u64 c] 39) (by simp))]; rfl
  have a1 : w6.cell? ⟨W.heap.size, 1, none⟩ = some (.int .u64 b) := by rw [cell_of_block ((unhide O).at W.heap.size (.cells #[.int .u64 a, .int .u64 b, .int .u64 c] 39) (by simp))]; rfl
  have a2 : w6.cell? ⟨W.heap.size, 2, none⟩ = some (.int .u64 c) := by rw [cell_of_block ((unhide O).at W.heap.size (.cells #[.int .u64 a, .int .u64 b, .int .u64 c] 39) (by simp))]; rfl
  have b0 : w6.cell? ⟨W.heap.size + 1, 0, none⟩ = some (.int .i64 x) := by rw [cell_of_block ((unhide O).at (W.heap.size + 1) (.cells #[.int .i64 x, .int .i64 y] 35) (by simp))]; rfl
  have b1 : w6.cell? ⟨W.heap.size + 1, 1, none⟩ = some (.int .i64 y) := by rw [cell_of_block ((unhide O).at (W.heap.size + 1) (.cells #[.int .i64 x, .int .i64 y] 35) (by simp))]; rfl
  go_wp2_with fail
  refine (unhide CM0 _).mono ?_
  rintro e w7 ⟨rfl, hb⟩
  replace O := hide ((unhide O).call hb)
  clear hb a0 a1 a2 b0 b1
  have a0 : w7.cell? ⟨W.heap.size, 0, none⟩ = some (.int .u64 a) := by rw [cell_of_block ((unhide O).at W.heap.size (.cells #[.int .u64 a, .int .u64 b, .int .u64 c] 39) (by simp))]; rfl
  have a1 : w7.cell? ⟨W.heap.size, 1, none⟩ = some (.int .u64 b) := by rw [cell_of_block ((unhide O).at W.heap.size (.cells #[.int .u64 a, .int .u64 b, .int .u64 c] 39) (by simp))]; rfl
  have a2 : w7.cell? ⟨W.heap.size, 2, none⟩ = some (.int .u64 c) := by rw [cell_of_block ((unhide O).at W.heap.size (.cells #[.int .u64 a, .int .u64 b, .int .u64 c] 39) (by simp))]; rfl
  have b0 : w7.cell? ⟨W.heap.size + 1, 0, none⟩ = some (.int .i64 x) := by rw [cell_of_block ((unhide O).at (W.heap.size + 1) (.cells #[.int .i64 x, .int .i64 y] 35) (by simp))]; rfl
  have b1 : w7.cell? ⟨W.heap.size + 1, 1, none⟩ = some (.int .i64 y) := by rw [cell_of_block ((unhide O).at (W.heap.size + 1) (.cells #[.int .i64 x, .int .i64 y] 35) (by simp))]; rfl
  go_wp2_with fail
  refine (unhide CM1 _).mono ?_
  rintro e w8 ⟨rfl, hb⟩
  replace O := hide ((unhide O).call hb)
  clear hb a0 a1 a2 b0 b1
  have a0 : w8.cell? ⟨W.heap.size, 0, none⟩ = some (.int .u64 a) := by rw [cell_of_block ((unhide O).at W.heap.size (.cells #[.int .u64 a, .int .u64 b, .int .u64 c] 39) (by simp))]; rfl
  have a1 : w8.cell? ⟨W.heap.size, 1, none⟩ = some (.int .u64 b) := by rw [cell_of_block ((unhide O).at W.heap.size (.cells #[.int .u64 a, .int .u64 b, .int .u64 c] 39) (by simp))]; rfl
  have a2 : w8.cell? ⟨W.heap.size, 2, none⟩ = some (.int .u64 c) := by rw [cell_of_block ((unhide O).at W.heap.size (.cells #[.int .u64 a, .int .u64 b, .int .u64 c] 39) (by simp))]; rfl
  have b0 : w8.cell? ⟨W.heap.size + 1, 0, none⟩ = some (.int .i64 x) := by rw [cell_of_block ((unhide O).at (W.heap.size + 1) (.cells #[.int .i64 x, .int .i64 y] 35) (by simp))]; rfl
  have b1 : w8.cell? ⟨W.heap.size + 1, 1, none⟩ = some (.int .i64 y) := by rw [cell_of_block ((unhide O).at (W.heap.size + 1) (.cells #[.int .i64 x, .int .i64 y] 35) (by simp))]; rfl
  go_wp2_with fail
  refine (unhide CO1 _).mono ?_
  rintro e w9 ⟨rfl, hb⟩
  replace O := hide (((unhide O).call hb).alloc (.cells A 23))
  clear hb a0 a1 a2 b0 b1
  have a0 : (w9.alloc (.cells A 23)).cell? ⟨W.heap.size, 0, none⟩ = some (.int .u64 a) := by rw [cell_of_block ((unhide O).at W.heap.size (.cells #[.int .u64 a, .int .u64 b, .int .u64 c] 39) (by simp))]; rfl
  have a1 : (w9.alloc (.cells A 23)).cell? ⟨W.heap.size, 1, none⟩ = some (.int .u64 b) := by rw [cell_of_block ((unhide O).at W.heap.size (.cells #[.int .u64 a, .int .u64 b, .int .u64 c] 39) (by simp))]; rfl
  have a2 : (w9.alloc (.cells A 23)).cell? ⟨W.heap.size, 2, none⟩ = some (.int .u64 c) := by rw [cell_of_block ((unhide O).at W.heap.size (.cells #[.int .u64 a, .int .u64 b, .int .u64 c] 39) (by simp))]; rfl
  have b0 : (w9.alloc (.cells A 23)).cell? ⟨W.heap.size + 1, 0, none⟩ = some (.int .i64 x) := by rw [cell_of_block ((unhide O).at (W.heap.size + 1) (.cells #[.int .i64 x, .int .i64 y] 35) (by simp))]; rfl
  have b1 : (w9.alloc (.cells A 23)).cell? ⟨W.heap.size + 1, 1, none⟩ = some (.int .i64 y) := by rw [cell_of_block ((unhide O).at (W.heap.size + 1) (.cells #[.int .i64 x, .int .i64 y] 35) (by simp))]; rfl
  go_wp2_with fail
  refine (unhide CO2 _).mono ?_
  rintro e w10 ⟨rfl, hb⟩
  replace O := hide (((unhide O).call hb).alloc (.cells B 23))
  clear hb a0 a1 a2 b0 b1
  have a0 : (w10.alloc (.cells B 23)).cell? ⟨W.heap.size, 0, none⟩ = some (.int .u64 a) := by rw [cell_of_block ((unhide O).at W.heap.size (.cells #[.int .u64 a, .int .u64 b, .int .u64 c] 39) (by simp))]; rfl
  have a1 : (w10.alloc (.cells B 23)).cell? ⟨W.heap.size, 1, none⟩ = some (.int .u64 b) := by rw [cell_of_block ((unhide O).at W.heap.size (.cells #[.int .u64 a, .int .u64 b, .int .u64 c] 39) (by simp))]; rfl
  have a2 : (w10.alloc (.cells B 23)).cell? ⟨W.heap.size, 2, none⟩ = some (.int .u64 c) := by rw [cell_of_block ((unhide O).at W.heap.size (.cells #[.int .u64 a, .int .u64 b, .int .u64 c] 39) (by simp))]; rfl
  have b0 : (w10.alloc (.cells B 23)).cell? ⟨W.heap.size + 1, 0, none⟩ = some (.int .i64 x) := by rw [cell_of_block ((unhide O).at (W.heap.size + 1) (.cells #[.int .i64 x, .int .i64 y] 35) (by simp))]; rfl
  have b1 : (w10.alloc (.cells B 23)).cell? ⟨W.heap.size + 1, 1, none⟩ = some (.int .i64 y) := by rw [cell_of_block ((unhide O).at (W.heap.size + 1) (.cells #[.int .i64 x, .int .i64 y] 35) (by simp))]; rfl
  go_wp2_with fail
  refine (unhide CI01 _).mono ?_
  rintro e w11 ⟨rfl, hb⟩
  replace O := hide ((unhide O).call hb)
  clear hb a0 a1 a2 b0 b1
  have a0 : w11.cell? ⟨W.heap.size, 0, none⟩ = some (.int .u64 a) := by rw [cell_of_block ((unhide O).at W.heap.size (.cells #[.int .u64 a, .int .u64 b, .int .u64 c] 39) (by simp))]; rfl
  have a1 : w11.cell? ⟨W.heap.size, 1, none⟩ = some (.int .u64 b) := by rw [cell_of_block ((unhide O).at W.heap.size (.cells #[.int .u64 a, .int .u64 b, .int .u64 c] 39) (by simp))]; rfl
  have a2 : w11.cell? ⟨W.heap.size, 2, none⟩ = some (.int .u64 c) := by rw [cell_of_block ((unhide O).at W.heap.size (.cells #[.int .u64 a, .int .u64 b, .int .u64 c] 39) (by simp))]; rfl
  have b0 : w11.cell? ⟨W.heap.size + 1, 0, none⟩ = some (.int .i64 x) := by rw [cell_of_block ((unhide O).at (W.heap.size + 1) (.cells #[.int .i64 x, .int .i64 y] 35) (by simp))]; rfl
  have b1 : w11.cell? ⟨W.heap.size + 1, 1, none⟩ = some (.int .i64 y) := by rw [cell_of_block ((unhide O).at (W.heap.size + 1) (.cells #[.int .i64 x, .int .i64 y] 35) (by simp))]; rfl
  go_wp2_with fail
  refine (unhide CI10 _).mono ?_
  rintro e w12 ⟨rfl, hb⟩
  replace O := hide ((unhide O).call hb)
  clear hb a0 a1 a2 b0 b1
  have a0 : w12.cell? ⟨W.heap.size, 0, none⟩ = some (.int .u64 a) := by rw [cell_of_block ((unhide O).at W.heap.size (.cells #[.int .u64 a, .int .u64 b, .int .u64 c] 39) (by simp))]; rfl
  have a1 : w12.cell? ⟨W.heap.size, 1, none⟩ = some (.int .u64 b) := by rw [cell_of_block ((unhide O).at W.heap.size (.cells #[.int .u64 a, .int .u64 b, .int .u64 c] 39) (by simp))]; rfl
  have a2 : w12.cell? ⟨W.heap.size, 2, none⟩ = some (.int .u64 c) := by rw [cell_of_block ((unhide O).at W.heap.size (.cells #[.int .u64 a, .int .u64 b, .int .u64 c] 39) (by simp))]; rfl
  have b0 : w12.cell? ⟨W.heap.size + 1, 0, none⟩ = some (.int .i64 x) := by rw [cell_of_block ((unhide O).at (W.heap.size + 1) (.cells #[.int .i64 x, .int .i64 y] 35) (by simp))]; rfl
  have b1 : w12.cell? ⟨W.heap.size + 1, 1, none⟩ = some (.int .i64 y) := by rw [cell_of_block ((unhide O).at (W.heap.size + 1) (.cells #[.int .i64 x, .int .i64 y] 35) (by simp))]; rfl
  have r0 : w12.cell? ⟨w9.heap.size, 1, none⟩ = some (.int .i64 ra) := by rw [cell_of_block ((unhide O).at w9.heap.size (.cells A 23) (by simp))]; exact rA
  have r1 : w12.cell? ⟨w10.heap.size, 1, none⟩ = some (.int .i64 rb) := by rw [cell_of_block ((unhide O).at w10.heap.size (.cells B 23) (by simp))]; exact rB
  go_wp2_with fail
  go_ret
  exact ⟨rfl, (unhide O).below⟩
set_option maxHeartbeats 4000000 in
set_option maxRecDepth 100000 in
theorem way_NZN (a b c x y : Int) (A B : Array Value) (p q R : Bool) (E0 E1 ra rb : Int) (H : Ans a b c x y A B p q true false R false 0 0 ra rb) (W : World) :
    Calls Try.prog 8 #[.agg #[.int .u64 a, .int .u64 b, .int .u64 c], .agg #[.int .i64 x, .int .i64 y]] W fun e W' => e = .returned (.bool true) ∧ Below W.heap.size W W' := by
  obtain ⟨CO1, CO2, CI00, CI01, CI12, CI02, CI10, CM0, CM1, nA, zA, nB, zB, rA, rB⟩ := H
  have hp : (p == p) = true := by simp
  have O := hide (((Own.start W).alloc (.cells #[.int .u64 a, .int .u64 b, .int .u64 c] 39)).alloc (.cells #[.int .i64 x, .int .i64 y] 35))
  have g0 : (W.alloc (.cells #[.int .u64 a, .int .u64 b, .int .u64 c] 39)).heap.size = W.heap.size + 1 := by simp
  rw [g0] at O
  clear g0
  go_enter Try.func8, Try.ntmps8
  go_wp2_with fail
  refine (shown7_any _).mono ?_
  rintro e w1 ⟨rfl, hb⟩
  replace O := hide ((unhide O).call hb)
  clear hb
  have a0 : w1.cell? ⟨W.heap.size, 0, none⟩ = some (.int .u64 a) := by rw [cell_of_block ((unhide O).at W.heap.size (.cells #[.int .u64 a, .int .u64 b, .int .u64 c] 39) (by simp))]; rfl
  have a1 : w1.cell? ⟨W.heap.size, 1, none⟩ = some (.int .u64 b) := by rw [cell_of_block ((unhide O).at W.heap.size (.cells #[.int .u64 a, .int .u64 b, .int .u64 c] 39) (by simp))]; rfl
  have a2 : w1.cell? ⟨W.heap.size, 2, none⟩ = some (.int .u64 c) := by rw [cell_of_block ((unhide O).at W.heap.size (.cells #[.int .u64 a, .int .u64 b, .int .u64 c] 39) (by simp))]; rfl
  have b0 : w1.cell? ⟨W.heap.size + 1, 0, none⟩ = some (.int .i64 x) := by rw [cell_of_block ((unhide O).at (W.heap.size + 1) (.cells #[.int .i64 x, .int .i64 y] 35) (by simp))]; rfl
  have b1 : w1.cell? ⟨W.heap.size + 1, 1, none⟩ = some (.int .i64 y) := by rw [cell_of_block ((unhide O).at (W.heap.size + 1) (.cells #[.int .i64 x, .int .i64 y] 35) (by simp))]; rfl
  go_wp2_with fail
  refine (unhide CO1 _).mono ?_
  rintro e w2 ⟨rfl, hb⟩
  replace O := hide (((unhide O).call hb).alloc (.cells A 23))
  clear hb a0 a1 a2 b0 b1
  have a0 : (w2.alloc (.cells A 23)).cell? ⟨W.heap.size, 0, none⟩ = some (.int .u64 a) := by rw [cell_of_block ((unhide O).at W.heap.size (.cells #[.int .u64 a, .int .u64 b, .int .u64 c] 39) (by simp))]; rfl
  have a1 : (w2.alloc (.cells A 23)).cell? ⟨W.heap.size, 1, none⟩ = some (.int .u64 b) := by rw [cell_of_block ((unhide O).at W.heap.size (.cells #[.int .u64 a, .int .u64 b, .int .u64 c] 39) (by simp))]; rfl
  have a2 : (w2.alloc (.cells A 23)).cell? ⟨W.heap.size, 2, none⟩ = some (.int .u64 c) := by rw [cell_of_block ((unhide O).at W.heap.size (.cells #[.int .u64 a, .int .u64 b, .int .u64 c] 39) (by simp))]; rfl
  have b0 : (w2.alloc (.cells A 23)).cell? ⟨W.heap.size + 1, 0, none⟩ = some (.int .i64 x) := by rw [cell_of_block ((unhide O).at (W.heap.size + 1) (.cells #[.int .i64 x, .int .i64 y] 35) (by simp))]; rfl
  have b1 : (w2.alloc (.cells A 23)).cell? ⟨W.heap.size + 1, 1, none⟩ = some (.int .i64 y) := by rw [cell_of_block ((unhide O).at (W.heap.size + 1) (.cells #[.int .i64 x, .int .i64 y] 35) (by simp))]; rfl
  go_wp2_with fail
  refine (unhide CI00 _).mono ?_
  rintro e w3 ⟨rfl, hb⟩
  replace O := hide ((unhide O).call hb)
  clear hb a0 a1 a2 b0 b1
  have a0 : w3.cell? ⟨W.heap.size, 0, none⟩ = some (.int .u64 a) := by rw [cell_of_block ((unhide O).at W.heap.size (.cells #[.int .u64 a, .int .u64 b, .int .u64 c] 39) (by simp))]; rfl
  have a1 : w3.cell? ⟨W.heap.size, 1, none⟩ = some (.int .u64 b) := by rw [cell_of_block ((unhide O).at W.heap.size (.cells #[.int .u64 a, .int .u64 b, .int .u64 c] 39) (by simp))]; rfl
  have a2 : w3.cell? ⟨W.heap.size, 2, none⟩ = some (.int .u64 c) := by rw [cell_of_block ((unhide O).at W.heap.size (.cells #[.int .u64 a, .int .u64 b, .int .u64 c] 39) (by simp))]; rfl
  have b0 : w3.cell? ⟨W.heap.size + 1, 0, none⟩ = some (.int .i64 x) := by rw [cell_of_block ((unhide O).at (W.heap.size + 1) (.cells #[.int .i64 x, .int .i64 y] 35) (by simp))]; rfl
  have b1 : w3.cell? ⟨W.heap.size + 1, 1, none⟩ = some (.int .i64 y) := by rw [cell_of_block ((unhide O).at (W.heap.size + 1) (.cells #[.int .i64 x, .int .i64 y] 35) (by simp))]; rfl
  go_wp2_with fail
  refine (unhide CI01 _).mono ?_
  rintro e w4 ⟨rfl, hb⟩
  replace O := hide ((unhide O).call hb)
  clear hb a0 a1 a2 b0 b1
  have a0 : w4.cell? ⟨W.heap.size, 0, none⟩ = some (.int .u64 a) := by rw [cell_of_block ((unhide O).at W.heap.size (.cells #[.int .u64 a, .int .u64 b, .int .u64 c] 39) (by simp))]; rfl
  have a1 : w4.cell? ⟨W.heap.size, 1, none⟩ = some (.int .u64 b) := by rw [cell_of_block ((unhide O).at W.heap.size (.cells #[.int .u64 a, .int .u64 b, .int .u64 c] 39) (by simp))]; rfl
  have a2 : w4.cell? ⟨W.heap.size, 2, none⟩ = some (.int .u64 c) := by rw [cell_of_block ((unhide O).at W.heap.size (.cells #[.int .u64 a, .int .u64 b, .int .u64 c] 39) (by simp))]; rfl
  have b0 : w4.cell? ⟨W.heap.size + 1, 0, none⟩ = some (.int .i64 x) := by rw [cell_of_block ((unhide O).at (W.heap.size + 1) (.cells #[.int .i64 x, .int .i64 y] 35) (by simp))]; rfl
  have b1 : w4.cell? ⟨W.heap.size + 1, 1, none⟩ = some (.int .i64 y) := by rw [cell_of_block ((unhide O).at (W.heap.size + 1) (.cells #[.int .i64 x, .int .i64 y] 35) (by simp))]; rfl
  go_wp2_with fail
  refine (unhide CI12 _).mono ?_
  rintro e w5 ⟨rfl, hb⟩
  replace O := hide ((unhide O).call hb)
  clear hb a0 a1 a2 b0 b1
  have a0 : w5.cell? ⟨W.heap.size, 0, none⟩ = some (.int .u64 a) := by rw [cell_of_block ((unhide O).at W.heap.size (.cells #[.int .u64 a, .int .u64 b, .int .u64 c] 39) (by simp))]; rfl
  have a1 : w5.cell? ⟨W.heap.size, 1, none⟩ = some (.int .u64 b) := by rw [cell_of_block ((unhide O).at W.heap.size (.cells #[.int .u64 a, .int .u64 b, .int .u64 c] 39) (by simp))]; rfl
  have a2 : w5.cell? ⟨W.heap.size, 2, none⟩ = some (.int .u64 c) := by rw [cell_of_block ((unhide O).at W.heap.size (.cells #[.int .u64 a, .int .u64 b, .int .u64 c] 39) (by simp))]; rfl
  have b0 : w5.cell? ⟨W.heap.size + 1, 0, none⟩ = some (.int .i64 x) := by rw [cell_of_block ((unhide O).at (W.heap.size + 1) (.cells #[.int .i64 x, .int .i64 y] 35) (by simp))]; rfl
  have b1 : w5.cell? ⟨W.heap.size + 1, 1, none⟩ = some (.int .i64 y) := by rw [cell_of_block ((unhide O).at (W.heap.size + 1) (.cells #[.int .i64 x, .int .i64 y] 35) (by simp))]; rfl
  go_wp2_with fail
  refine (unhide CI01 _).mono ?_
  rintro e w6 ⟨rfl, hb⟩
  replace O := hide ((unhide O).call hb)
  clear hb a0 a1 a2 b0 b1
  have a0 : w6.cell? ⟨W.heap.size, 0, none⟩ = some (.int .u64 a) := by rw [cell_of_block ((unhide O).at W.heap.size (.cells #[.int .u64 a, .int .u64 b, .int .u64 c] 39) (by simp))]; rfl
  have a1 : w6.cell? ⟨W.heap.size, 1, none⟩ = some (.int .u64 b) := by rw [cell_of_block ((unhide O).at W.heap.size (.cells #[.int .u64 a, .int .u64 b, .int .u64 c] 39) (by simp))]; rfl
  have a2 : w6.cell? ⟨W.heap.size, 2, none⟩ = some (.int .u64 c) := by rw [cell_of_block ((unhide O).at W.heap.size (.cells #[.int .u64 a, .int .u64 b, .int .u64 c] 39) (by simp))]; rfl
  have b0 : w6.cell? ⟨W.heap.size + 1, 0, none⟩ = some (.int .i64 x) := by rw [cell_of_block ((unhide O).at (W.heap.size + 1) (.cells #[.int .i64 x, .int .i64 y] 35) (by simp))]; rfl
  have b1 : w6.cell? ⟨W.heap.size + 1, 1, none⟩ = some (.int .i64 y) := by rw [cell_of_block ((unhide O).at (W.heap.size + 1) (.cells #[.int .i64 x, .int .i64 y] 35) (by simp))]; rfl
  go_wp2_with fail
  refine (unhide CM0 _).mono ?_
  rintro e w7 ⟨rfl, hb⟩
  replace O := hide ((unhide O).call hb)
  clear hb a0 a1 a2 b0 b1
  have a0 : w7.cell? ⟨W.heap.size, 0, none⟩ = some (.int .u64 a) := by rw [cell_of_block ((unhide O).at W.heap.size (.cells #[.int .u64 a, .int .u64 b, .int .u64 c] 39) (by simp))]; rfl
  have a1 : w7.cell? ⟨W.heap.size, 1, none⟩ = some (.int .u64 b) := by rw [cell_of_block ((unhide O).at W.heap.size (.cells #[.int .u64 a, .int .u64 b, .int .u64 c] 39) (by simp))]; rfl
  have a2 : w7.cell? ⟨W.heap.size, 2, none⟩ = some (.int .u64 c) := by rw [cell_of_block ((unhide O).at W.heap.size (.cells #[.int .u64 a, .int .u64 b, .int .u64 c] 39) (by simp))]; rfl
  have b0 : w7.cell? ⟨W.heap.size + 1, 0, none⟩ = some (.int .i64 x) := by rw [cell_of_block ((unhide O).at (W.heap.size + 1) (.cells #[.int .i64 x, .int .i64 y] 35) (by simp))]; rfl
  have b1 : w7.cell? ⟨W.heap.size + 1, 1, none⟩ = some (.int .i64 y) := by rw [cell_of_block ((unhide O).at (W.heap.size + 1) (.cells #[.int .i64 x, .int .i64 y] 35) (by simp))]; rfl
  go_wp2_with fail
  refine (unhide CM1 _).mono ?_
  rintro e w8 ⟨rfl, hb⟩
  replace O := hide ((unhide O).call hb)
  clear hb a0 a1 a2 b0 b1
  have a0 : w8.cell? ⟨W.heap.size, 0, none⟩ = some (.int .u64 a) := by rw [cell_of_block ((unhide O).at W.heap.size (.cells #[.int .u64 a, .int .u64 b, .int .u64 c] 39) (by simp))]; rfl
  have a1 : w8.cell? ⟨W.heap.size, 1, none⟩ = some (.int .u64 b) := by rw [cell_of_block ((unhide O).at W.heap.size (.cells #[.int .u64 a, .int .u64 b, .int .u64 c] 39) (by simp))]; rfl
  have a2 : w8.cell? ⟨W.heap.size, 2, none⟩ = some (.int .u64 c) := by rw [cell_of_block ((unhide O).at W.heap.size (.cells #[.int .u64 a, .int .u64 b, .int .u64 c] 39) (by simp))]; rfl
  have b0 : w8.cell? ⟨W.heap.size + 1, 0, none⟩ = some (.int .i64 x) := by rw [cell_of_block ((unhide O).at (W.heap.size + 1) (.cells #[.int .i64 x, .int .i64 y] 35) (by simp))]; rfl
  have b1 : w8.cell? ⟨W.heap.size + 1, 1, none⟩ = some (.int .i64 y) := by rw [cell_of_block ((unhide O).at (W.heap.size + 1) (.cells #[.int .i64 x, .int .i64 y] 35) (by simp))]; rfl
  go_wp2_with fail
  refine (unhide CO1 _).mono ?_
  rintro e w9 ⟨rfl, hb⟩
  replace O := hide (((unhide O).call hb).alloc (.cells A 23))
  clear hb a0 a1 a2 b0 b1
  have a0 : (w9.alloc (.cells A 23)).cell? ⟨W.heap.size, 0, none⟩ = some (.int .u64 a) := by rw [cell_of_block ((unhide O).at W.heap.size (.cells #[.int .u64 a, .int .u64 b, .int .u64 c] 39) (by simp))]; rfl
  have a1 : (w9.alloc (.cells A 23)).cell? ⟨W.heap.size, 1, none⟩ = some (.int .u64 b) := by rw [cell_of_block ((unhide O).at W.heap.size (.cells #[.int .u64 a, .int .u64 b, .int .u64 c] 39) (by simp))]; rfl
  have a2 : (w9.alloc (.cells A 23)).cell? ⟨W.heap.size, 2, none⟩ = some (.int .u64 c) := by rw [cell_of_block ((unhide O).at W.heap.size (.cells #[.int .u64 a, .int .u64 b, .int .u64 c] 39) (by simp))]; rfl
  have b0 : (w9.alloc (.cells A 23)).cell? ⟨W.heap.size + 1, 0, none⟩ = some (.int .i64 x) := by rw [cell_of_block ((unhide O).at (W.heap.size + 1) (.cells #[.int .i64 x, .int .i64 y] 35) (by simp))]; rfl
  have b1 : (w9.alloc (.cells A 23)).cell? ⟨W.heap.size + 1, 1, none⟩ = some (.int .i64 y) := by rw [cell_of_block ((unhide O).at (W.heap.size + 1) (.cells #[.int .i64 x, .int .i64 y] 35) (by simp))]; rfl
  go_wp2_with fail
  refine (unhide CO2 _).mono ?_
  rintro e w10 ⟨rfl, hb⟩
  replace O := hide (((unhide O).call hb).alloc (.cells B 23))
  clear hb a0 a1 a2 b0 b1
  have a0 : (w10.alloc (.cells B 23)).cell? ⟨W.heap.size, 0, none⟩ = some (.int .u64 a) := by rw [cell_of_block ((unhide O).at W.heap.size (.cells #[.int .u64 a, .int .u64 b, .int .u64 c] 39) (by simp))]; rfl
  have a1 : (w10.alloc (.cells B 23)).cell? ⟨W.heap.size, 1, none⟩ = some (.int .u64 b) := by rw [cell_of_block ((unhide O).at W.heap.size (.cells #[.int .u64 a, .int .u64 b, .int .u64 c] 39) (by simp))]; rfl
  have a2 : (w10.alloc (.cells B 23)).cell? ⟨W.heap.size, 2, none⟩ = some (.int .u64 c) := by rw [cell_of_block ((unhide O).at W.heap.size (.cells #[.int .u64 a, .int .u64 b, .int .u64 c] 39) (by simp))]; rfl
  have b0 : (w10.alloc (.cells B 23)).cell? ⟨W.heap.size + 1, 0, none⟩ = some (.int .i64 x) := by rw [cell_of_block ((unhide O).at (W.heap.size + 1) (.cells #[.int .i64 x, .int .i64 y] 35) (by simp))]; rfl
  have b1 : (w10.alloc (.cells B 23)).cell? ⟨W.heap.size + 1, 1, none⟩ = some (.int .i64 y) := by rw [cell_of_block ((unhide O).at (W.heap.size + 1) (.cells #[.int .i64 x, .int .i64 y] 35) (by simp))]; rfl
  go_wp2_with fail
  refine (unhide CI01 _).mono ?_
  rintro e w11 ⟨rfl, hb⟩
  replace O := hide ((unhide O).call hb)
  clear hb a0 a1 a2 b0 b1
  have a0 : w11.cell? ⟨W.heap.size, 0, none⟩ = some (.int .u64 a) := by rw [cell_of_block ((unhide O).at W.heap.size (.cells #[.int .u64 a, .int .u64 b, .int .u64 c] 39) (by simp))]; rfl
  have a1 : w11.cell? ⟨W.heap.size, 1, none⟩ = some (.int .u64 b) := by rw [cell_of_block ((unhide O).at W.heap.size (.cells #[.int .u64 a, .int .u64 b, .int .u64 c] 39) (by simp))]; rfl
  have a2 : w11.cell? ⟨W.heap.size, 2, none⟩ = some (.int .u64 c) := by rw [cell_of_block ((unhide O).at W.heap.size (.cells #[.int .u64 a, .int .u64 b, .int .u64 c] 39) (by simp))]; rfl
  have b0 : w11.cell? ⟨W.heap.size + 1, 0, none⟩ = some (.int .i64 x) := by rw [cell_of_block ((unhide O).at (W.heap.size + 1) (.cells #[.int .i64 x, .int .i64 y] 35) (by simp))]; rfl
  have b1 : w11.cell? ⟨W.heap.size + 1, 1, none⟩ = some (.int .i64 y) := by rw [cell_of_block ((unhide O).at (W.heap.size + 1) (.cells #[.int .i64 x, .int .i64 y] 35) (by simp))]; rfl
  go_wp2_with fail
  refine (unhide CI10 _).mono ?_
  rintro e w12 ⟨rfl, hb⟩
  replace O := hide ((unhide O).call hb)
  clear hb a0 a1 a2 b0 b1
  have a0 : w12.cell? ⟨W.heap.size, 0, none⟩ = some (.int .u64 a) := by rw [cell_of_block ((unhide O).at W.heap.size (.cells #[.int .u64 a, .int .u64 b, .int .u64 c] 39) (by simp))]; rfl
  have a1 : w12.cell? ⟨W.heap.size, 1, none⟩ = some (.int .u64 b) := by rw [cell_of_block ((unhide O).at W.heap.size (.cells #[.int .u64 a, .int .u64 b, .int .u64 c] 39) (by simp))]; rfl
  have a2 : w12.cell? ⟨W.heap.size, 2, none⟩ = some (.int .u64 c) := by rw [cell_of_block ((unhide O).at W.heap.size (.cells #[.int .u64 a, .int .u64 b, .int .u64 c] 39) (by simp))]; rfl
  have b0 : w12.cell? ⟨W.heap.size + 1, 0, none⟩ = some (.int .i64 x) := by rw [cell_of_block ((unhide O).at (W.heap.size + 1) (.cells #[.int .i64 x, .int .i64 y] 35) (by simp))]; rfl
  have b1 : w12.cell? ⟨W.heap.size + 1, 1, none⟩ = some (.int .i64 y) := by rw [cell_of_block ((unhide O).at (W.heap.size + 1) (.cells #[.int .i64 x, .int .i64 y] 35) (by simp))]; rfl
  go_wp2_with fail
  go_ret
  exact ⟨rfl, (unhide O).below⟩
set_option maxHeartbeats 4000000 in
set_option maxRecDepth 100000 in
theorem way_NNS (a b c x y : Int) (A B : Array Value) (p q R : Bool) (E0 E1 ra rb : Int) (H : Ans a b c x y A B p q true false R true E0 E1 ra rb) (hE : (E0 == 0) = false) (hr : (ra == rb) = true) (W : World) :
    Calls Try.prog 8 #[.agg #[.int .u64 a, .int .u64 b, .int .u64 c], .agg #[.int .i64 x, .int .i64 y]] W fun e W' => e = .returned (.bool true) ∧ Below W.heap.size W W' := by
  obtain ⟨CO1, CO2, CI00, CI01, CI12, CI02, CI10, CM0, CM1, nA, zA, nB, zB, rA, rB⟩ := H
  have hp : (p == p) = true := by simp
  have O := hide (((Own.start W).alloc (.cells #[.int .u64 a, .int .u64 b, .int .u64 c] 39)).alloc (.cells #[.int .i64 x, .int .i64 y] 35))
  have g0 : (W.alloc (.cells #[.int .u64 a, .int .u64 b, .int .u64 c] 39)).heap.size = W.heap.size + 1 := by simp
  rw [g0] at O
  clear g0
  go_enter Try.func8, Try.ntmps8
  go_wp2_with fail
  refine (shown7_any _).mono ?_
  rintro e w1 ⟨rfl, hb⟩
  replace O := hide ((unhide O).call hb)
  clear hb
  have a0 : w1.cell? ⟨W.heap.size, 0, none⟩ = some (.int .u64 a) := by rw [cell_of_block ((unhide O).at W.heap.size (.cells #[.int .u64 a, .int .u64 b, .int .u64 c] 39) (by simp))]; rfl
  have a1 : w1.cell? ⟨W.heap.size, 1, none⟩ = some (.int .u64 b) := by rw [cell_of_block ((unhide O).at W.heap.size (.cells #[.int .u64 a, .int .u64 b, .int .u64 c] 39) (by simp))]; rfl
  have a2 : w1.cell? ⟨W.heap.size, 2, none⟩ = some (.int .u64 c) := by rw [cell_of_block ((unhide O).at W.heap.size (.cells #[.int .u64 a, .int .u64 b, .int .u64 c] 39) (by simp))]; rfl
  have b0 : w1.cell? ⟨W.heap.size + 1, 0, none⟩ = some (.int .i64 x) := by rw [cell_of_block ((unhide O).at (W.heap.size + 1) (.cells #[.int .i64 x, .int .i64 y] 35) (by simp))]; rfl
  have b1 : w1.cell? ⟨W.heap.size + 1, 1, none⟩ = some (.int .i64 y) := by rw [cell_of_block ((unhide O).at (W.heap.size + 1) (.cells #[.int .i64 x, .int .i64 y] 35) (by simp))]; rfl
  go_wp2_with fail
  refine (unhide CO1 _).mono ?_
  rintro e w2 ⟨rfl, hb⟩
  replace O := hide (((unhide O).call hb).alloc (.cells A 23))
  clear hb a0 a1 a2 b0 b1
  have a0 : (w2.alloc (.cells A 23)).cell? ⟨W.heap.size, 0, none⟩ = some (.int .u64 a) := by rw [cell_of_block ((unhide O).at W.heap.size (.cells #[.int .u64 a, .int .u64 b, .int .u64 c] 39) (by simp))]; rfl
  have a1 : (w2.alloc (.cells A 23)).cell? ⟨W.heap.size, 1, none⟩ = some (.int .u64 b) := by rw [cell_of_block ((unhide O).at W.heap.size (.cells #[.int .u64 a, .int .u64 b, .int .u64 c] 39) (by simp))]; rfl
  have a2 : (w2.alloc (.cells A 23)).cell? ⟨W.heap.size, 2, none⟩ = some (.int .u64 c) := by rw [cell_of_block ((unhide O).at W.heap.size (.cells #[.int .u64 a, .int .u64 b, .int .u64 c] 39) (by simp))]; rfl
  have b0 : (w2.alloc (.cells A 23)).cell? ⟨W.heap.size + 1, 0, none⟩ = some (.int .i64 x) := by rw [cell_of_block ((unhide O).at (W.heap.size + 1) (.cells #[.int .i64 x, .int .i64 y] 35) (by simp))]; rfl
  have b1 : (w2.alloc (.cells A 23)).cell? ⟨W.heap.size + 1, 1, none⟩ = some (.int .i64 y) := by rw [cell_of_block ((unhide O).at (W.heap.size + 1) (.cells #[.int .i64 x, .int .i64 y] 35) (by simp))]; rfl
  go_wp2_with fail
  refine (unhide CI00 _).mono ?_
  rintro e w3 ⟨rfl, hb⟩
  replace O := hide ((unhide O).call hb)
  clear hb a0 a1 a2 b0 b1
  have a0 : w3.cell? ⟨W.heap.size, 0, none⟩ = some (.int .u64 a) := by rw [cell_of_block ((unhide O).at W.heap.size (.cells #[.int .u64 a, .int .u64 b, .int .u64 c] 39) (by simp))]; rfl
  have a1 : w3.cell? ⟨W.heap.size, 1, none⟩ = some (.int .u64 b) := by rw [cell_of_block ((unhide O).at W.heap.size (.cells #[.int .u64 a, .int .u64 b, .int .u64 c] 39) (by simp))]; rfl
  have a2 : w3.cell? ⟨W.heap.size, 2, none⟩ = some (.int .u64 c) := by rw [cell_of_block ((unhide O).at W.heap.size (.cells #[.int .u64 a, .int .u64 b, .int .u64 c] 39) (by simp))]; rfl
  have b0 : w3.cell? ⟨W.heap.size + 1, 0, none⟩ = some (.int .i64 x) := by rw [cell_of_block ((unhide O).at (W.heap.size + 1) (.cells #[.int .i64 x, .int .i64 y] 35) (by simp))]; rfl
  have b1 : w3.cell? ⟨W.heap.size + 1, 1, none⟩ = some (.int .i64 y) := by rw [cell_of_block ((unhide O).at (W.heap.size + 1) (.cells #[.int .i64 x, .int .i64 y] 35) (by simp))]; rfl
  go_wp2_with fail
  refine (unhide CI01 _).mono ?_
  rintro e w4 ⟨rfl, hb⟩
  replace O := hide ((unhide O).call hb)
  clear hb a0 a1 a2 b0 b1
  have a0 : w4.cell? ⟨W.heap.size, 0, none⟩ = some (.int .u64 a) := by rw [cell_of_block ((unhide O).at W.heap.size (.cells #[.int .u64 a, .int .u64 b, .int .u64 c] 39) (by simp))]; rfl
  have a1 : w4.cell? ⟨W.heap.size, 1, none⟩ = some (.int .u64 b) := by rw [cell_of_block ((unhide O).at W.heap.size (.cells #[.int .u64 a, .int .u64 b, .int .u64 c] 39) (by simp))]; rfl
  have a2 : w4.cell? ⟨W.heap.size, 2, none⟩ = some (.int .u64 c) := by rw [cell_of_block ((unhide O).at W.heap.size (.cells #[.int .u64 a, .int .u64 b, .int .u64 c] 39) (by simp))]; rfl
  have b0 : w4.cell? ⟨W.heap.size + 1, 0, none⟩ = some (.int .i64 x) := by rw [cell_of_block ((unhide O).at (W.heap.size + 1) (.cells #[.int .i64 x, .int .i64 y] 35) (by simp))]; rfl
  have b1 : w4.cell? ⟨W.heap.size + 1, 1, none⟩ = some (.int .i64 y) := by rw [cell_of_block ((unhide O).at (W.heap.size + 1) (.cells #[.int .i64 x, .int .i64 y] 35) (by simp))]; rfl
  go_wp2_with fail
  refine (unhide CI12 _).mono ?_
  rintro e w5 ⟨rfl, hb⟩
  replace O := hide ((unhide O).call hb)
  clear hb a0 a1 a2 b0 b1
  have a0 : w5.cell? ⟨W.heap.size, 0, none⟩ = some (.int .u64 a) := by rw [cell_of_block ((unhide O).at W.heap.size (.cells #[.int .u64 a, .int .u64 b, .int .u64 c] 39) (by simp))]; rfl
  have a1 : w5.cell? ⟨W.heap.size, 1, none⟩ = some (.int .u64 b) := by rw [cell_of_block ((unhide O).at W.heap.size (.cells #[.int .u64 a, .int .u64 b, .int .u64 c] 39) (by simp))]; rfl
  have a2 : w5.cell? ⟨W.heap.size, 2, none⟩ = some (.int .u64 c) := by rw [cell_of_block ((unhide O).at W.heap.size (.cells #[.int .u64 a, .int .u64 b, .int .u64 c] 39) (by simp))]; rfl
  have b0 : w5.cell? ⟨W.heap.size + 1, 0, none⟩ = some (.int .i64 x) := by rw [cell_of_block ((unhide O).at (W.heap.size + 1) (.cells #[.int .i64 x, .int .i64 y] 35) (by simp))]; rfl
  have b1 : w5.cell? ⟨W.heap.size + 1, 1, none⟩ = some (.int .i64 y) := by rw [cell_of_block ((unhide O).at (W.heap.size + 1) (.cells #[.int .i64 x, .int .i64 y] 35) (by simp))]; rfl
  go_wp2_with fail
  refine (unhide CI01 _).mono ?_
  rintro e w6 ⟨rfl, hb⟩
  replace O := hide ((unhide O).call hb)
  clear hb a0 a1 a2 b0 b1
  have a0 : w6.cell? ⟨W.heap.size, 0, none⟩ = some (.int .u64 a) := by rw [cell_of_block ((unhide O).at W.heap.size (.cells #[.int .u64 a, .int .u64 b, .int .u64 c] 39) (by simp))]; rfl
  have a1 : w6.cell? ⟨W.heap.size, 1, none⟩ = some (.int .u64 b) := by rw [cell_of_block ((unhide O).at W.heap.size (.cells #[.int .u64 a, .int .u64 b, .int .u64 c] 39) (by simp))]; rfl
  have a2 : w6.cell? ⟨W.heap.size, 2, none⟩ = some (.int .u64 c) := by rw [cell_of_block ((unhide O).at W.heap.size (.cells #[.int .u64 a, .int .u64 b, .int .u64 c] 39) (by simp))]; rfl
  have b0 : w6.cell? ⟨W.heap.size + 1, 0, none⟩ = some (.int .i64 x) := by rw [cell_of_block ((unhide O).at (W.heap.size + 1) (.cells #[.int .i64 x, .int .i64 y] 35) (by simp))]; rfl
  have b1 : w6.cell? ⟨W.heap.size + 1, 1, none⟩ = some (.int .i64 y) := by rw [cell_of_block ((unhide O).at (W.heap.size + 1) (.cells #[.int .i64 x, .int .i64 y] 35) (by simp))]; rfl
  go_wp2_with fail
  refine (unhide CM0 _).mono ?_
  rintro e w7 ⟨rfl, hb⟩
  replace O := hide ((unhide O).call hb)
  clear hb a0 a1 a2 b0 b1
  have a0 : w7.cell? ⟨W.heap.size, 0, none⟩ = some (.int .u64 a) := by rw [cell_of_block ((unhide O).at W.heap.size (.cells #[.int .u64 a, .int .u64 b, .int .u64 c] 39) (by simp))]; rfl
  have a1 : w7.cell? ⟨W.heap.size, 1, none⟩ = some (.int .u64 b) := by rw [cell_of_block ((unhide O).at W.heap.size (.cells #[.int .u64 a, .int .u64 b, .int .u64 c] 39) (by simp))]; rfl
  have a2 : w7.cell? ⟨W.heap.size, 2, none⟩ = some (.int .u64 c) := by rw [cell_of_block ((unhide O).at W.heap.size (.cells #[.int .u64 a, .int .u64 b, .int .u64 c] 39) (by simp))]; rfl
  have b0 : w7.cell? ⟨W.heap.size + 1, 0, none⟩ = some (.int .i64 x) := by rw [cell_of_block ((unhide O).at (W.heap.size + 1) (.cells #[.int .i64 x, .int .i64 y] 35) (by simp))]; rfl
  have b1 : w7.cell? ⟨W.heap.size + 1, 1, none⟩ = some (.int .i64 y) := by rw [cell_of_block ((unhide O).at (W.heap.size + 1) (.cells #[.int .i64 x, .int .i64 y] 35) (by simp))]; rfl
  go_wp2_with fail
  refine (unhide CO1 _).mono ?_
  rintro e w8 ⟨rfl, hb⟩
  replace O := hide (((unhide O).call hb).alloc (.cells A 23))
  clear hb a0 a1 a2 b0 b1
  have a0 : (w8.alloc (.cells A 23)).cell? ⟨W.heap.size, 0, none⟩ = some (.int .u64 a) := by rw [cell_of_block ((unhide O).at W.heap.size (.cells #[.int .u64 a, .int .u64 b, .int .u64 c] 39) (by simp))]; rfl
  have a1 : (w8.alloc (.cells A 23)).cell? ⟨W.heap.size, 1, none⟩ = some (.int .u64 b) := by rw [cell_of_block ((unhide O).at W.heap.size (.cells #[.int .u64 a, .int .u64 b, .int .u64 c] 39) (by simp))]; rfl
  have a2 : (w8.alloc (.cells A 23)).cell? ⟨W.heap.size, 2, none⟩ = some (.int .u64 c) := by rw [cell_of_block ((unhide O).at W.heap.size (.cells #[.int .u64 a, .int .u64 b, .int .u64 c] 39) (by simp))]; rfl
  have b0 : (w8.alloc (.cells A 23)).cell? ⟨W.heap.size + 1, 0, none⟩ = some (.int .i64 x) := by rw [cell_of_block ((unhide O).at (W.heap.size + 1) (.cells #[.int .i64 x, .int .i64 y] 35) (by simp))]; rfl
  have b1 : (w8.alloc (.cells A 23)).cell? ⟨W.heap.size + 1, 1, none⟩ = some (.int .i64 y) := by rw [cell_of_block ((unhide O).at (W.heap.size + 1) (.cells #[.int .i64 x, .int .i64 y] 35) (by simp))]; rfl
  go_wp2_with fail
  refine (unhide CO2 _).mono ?_
  rintro e w9 ⟨rfl, hb⟩
  replace O := hide (((unhide O).call hb).alloc (.cells B 23))
  clear hb a0 a1 a2 b0 b1
  have a0 : (w9.alloc (.cells B 23)).cell? ⟨W.heap.size, 0, none⟩ = some (.int .u64 a) := by rw [cell_of_block ((unhide O).at W.heap.size (.cells #[.int .u64 a, .int .u64 b, .int .u64 c] 39) (by simp))]; rfl
  have a1 : (w9.alloc (.cells B 23)).cell? ⟨W.heap.size, 1, none⟩ = some (.int .u64 b) := by rw [cell_of_block ((unhide O).at W.heap.size (.cells #[.int .u64 a, .int .u64 b, .int .u64 c] 39) (by simp))]; rfl
  have a2 : (w9.alloc (.cells B 23)).cell? ⟨W.heap.size, 2, none⟩ = some (.int .u64 c) := by rw [cell_of_block ((unhide O).at W.heap.size (.cells #[.int .u64 a, .int .u64 b, .int .u64 c] 39) (by simp))]; rfl
  have b0 : (w9.alloc (.cells B 23)).cell? ⟨W.heap.size + 1, 0, none⟩ = some (.int .i64 x) := by rw [cell_of_block ((unhide O).at (W.heap.size + 1) (.cells #[.int .i64 x, .int .i64 y] 35) (by simp))]; rfl
  have b1 : (w9.alloc (.cells B 23)).cell? ⟨W.heap.size + 1, 1, none⟩ = some (.int .i64 y) := by rw [cell_of_block ((unhide O).at (W.heap.size + 1) (.cells #[.int .i64 x, .int .i64 y] 35) (by simp))]; rfl
  go_wp2_with fail
  refine (unhide CI01 _).mono ?_
  rintro e w10 ⟨rfl, hb⟩
  replace O := hide ((unhide O).call hb)
  clear hb a0 a1 a2 b0 b1
  have a0 : w10.cell? ⟨W.heap.size, 0, none⟩ = some (.int .u64 a) := by rw [cell_of_block ((unhide O).at W.heap.size (.cells #[.int .u64 a, .int .u64 b, .int .u64 c] 39) (by simp))]; rfl
  have a1 : w10.cell? ⟨W.heap.size, 1, none⟩ = some (.int .u64 b) := by rw [cell_of_block ((unhide O).at W.heap.size (.cells #[.int .u64 a, .int .u64 b, .int .u64 c] 39) (by simp))]; rfl
  have a2 : w10.cell? ⟨W.heap.size, 2, none⟩ = some (.int .u64 c) := by rw [cell_of_block ((unhide O).at W.heap.size (.cells #[.int .u64 a, .int .u64 b, .int .u64 c] 39) (by simp))]; rfl
  have b0 : w10.cell? ⟨W.heap.size + 1, 0, none⟩ = some (.int .i64 x) := by rw [cell_of_block ((unhide O).at (W.heap.size + 1) (.cells #[.int .i64 x, .int .i64 y] 35) (by simp))]; rfl
  have b1 : w10.cell? ⟨W.heap.size + 1, 1, none⟩ = some (.int .i64 y) := by rw [cell_of_block ((unhide O).at (W.heap.size + 1) (.cells #[.int .i64 x, .int .i64 y] 35) (by simp))]; rfl
  go_wp2_with fail
  refine (unhide CI10 _).mono ?_
  rintro e w11 ⟨rfl, hb⟩
  replace O := hide ((unhide O).call hb)
  clear hb a0 a1 a2 b0 b1
  have a0 : w11.cell? ⟨W.heap.size, 0, none⟩ = some (.int .u64 a) := by rw [cell_of_block ((unhide O).at W.heap.size (.cells #[.int .u64 a, .int .u64 b, .int .u64 c] 39) (by simp))]; rfl
  have a1 : w11.cell? ⟨W.heap.size, 1, none⟩ = some (.int .u64 b) := by rw [cell_of_block ((unhide O).at W.heap.size (.cells #[.int .u64 a, .int .u64 b, .int .u64 c] 39) (by simp))]; rfl
  have a2 : w11.cell? ⟨W.heap.size, 2, none⟩ = some (.int .u64 c) := by rw [cell_of_block ((unhide O).at W.heap.size (.cells #[.int .u64 a, .int .u64 b, .int .u64 c] 39) (by simp))]; rfl
  have b0 : w11.cell? ⟨W.heap.size + 1, 0, none⟩ = some (.int .i64 x) := by rw [cell_of_block ((unhide O).at (W.heap.size + 1) (.cells #[.int .i64 x, .int .i64 y] 35) (by simp))]; rfl
  have b1 : w11.cell? ⟨W.heap.size + 1, 1, none⟩ = some (.int .i64 y) := by rw [cell_of_block ((unhide O).at (W.heap.size + 1) (.cells #[.int .i64 x, .int .i64 y] 35) (by simp))]; rfl
  have r0 : w11.cell? ⟨w8.heap.size, 1, none⟩ = some (.int .i64 ra) := by rw [cell_of_block ((unhide O).at w8.heap.size (.cells A 23) (by simp))]; exact rA
  have r1 : w11.cell? ⟨w9.heap.size, 1, none⟩ = some (.int .i64 rb) := by rw [cell_of_block ((unhide O).at w9.heap.size (.cells B 23) (by simp))]; exact rB
  go_wp2_with fail
  go_ret
  exact ⟨rfl, (unhide O).below⟩
set_option maxHeartbeats 4000000 in
set_option maxRecDepth 100000 in
theorem way_NNN (a b c x y : Int) (A B : Array Value) (p q R : Bool) (E0 E1 ra rb : Int) (H : Ans a b c x y A B p q true false R false E0 E1 ra rb) (hE : (E0 == 0) = false) (W : World) :
    Calls Try.prog 8 #[.agg #[.int .u64 a, .int .u64 b, .int .u64 c], .agg #[.int .i64 x, .int .i64 y]] W fun e W' => e = .returned (.bool true) ∧ Below W.heap.size W W' := by
  obtain ⟨CO1, CO2, CI00, CI01, CI12, CI02, CI10, CM0, CM1, nA, zA, nB, zB, rA, rB⟩ := H
  have hp : (p == p) = true := by simp
  have O := hide (((Own.start W).alloc (.cells #[.int .u64 a, .int .u64 b, .int .u64 c] 39)).alloc (.cells #[.int .i64 x, .int .i64 y] 35))
  have g0 : (W.alloc (.cells #[.int .u64 a, .int .u64 b, .int .u64 c] 39)).heap.size = W.heap.size + 1 := by simp
  rw [g0] at O
  clear g0
  go_enter Try.func8, Try.ntmps8
  go_wp2_with fail
  refine (shown7_any _).mono ?_
  rintro e w1 ⟨rfl, hb⟩
  replace O := hide ((unhide O).call hb)
  clear hb
  have a0 : w1.cell? ⟨W.heap.size, 0, none⟩ = some (.int .u64 a) := by rw [cell_of_block ((unhide O).at W.heap.size (.cells #[.int .u64 a, .int .u64 b, .int .u64 c] 39) (by simp))]; rfl
  have a1 : w1.cell? ⟨W.heap.size, 1, none⟩ = some (.int .u64 b) := by rw [cell_of_block ((unhide O).at W.heap.size (.cells #[.int .u64 a, .int .u64 b, .int .u64 c] 39) (by simp))]; rfl
  have a2 : w1.cell? ⟨W.heap.size, 2, none⟩ = some (.int .u64 c) := by rw [cell_of_block ((unhide O).at W.heap.size (.cells #[.int .u64 a, .int .u64 b, .int .u64 c] 39) (by simp))]; rfl
  have b0 : w1.cell? ⟨W.heap.size + 1, 0, none⟩ = some (.int .i64 x) := by rw [cell_of_block ((unhide O).at (W.heap.size + 1) (.cells #[.int .i64 x, .int .i64 y] 35) (by simp))]; rfl
  have b1 : w1.cell? ⟨W.heap.size + 1, 1, none⟩ = some (.int .i64 y) := by rw [cell_of_block ((unhide O).at (W.heap.size + 1) (.cells #[.int .i64 x, .int .i64 y] 35) (by simp))]; rfl
  go_wp2_with fail
  refine (unhide CO1 _).mono ?_
  rintro e w2 ⟨rfl, hb⟩
  replace O := hide (((unhide O).call hb).alloc (.cells A 23))
  clear hb a0 a1 a2 b0 b1
  have a0 : (w2.alloc (.cells A 23)).cell? ⟨W.heap.size, 0, none⟩ = some (.int .u64 a) := by rw [cell_of_block ((unhide O).at W.heap.size (.cells #[.int .u64 a, .int .u64 b, .int .u64 c] 39) (by simp))]; rfl
  have a1 : (w2.alloc (.cells A 23)).cell? ⟨W.heap.size, 1, none⟩ = some (.int .u64 b) := by rw [cell_of_block ((unhide O).at W.heap.size (.cells #[.int .u64 a, .int .u64 b, .int .u64 c] 39) (by simp))]; rfl
  have a2 : (w2.alloc (.cells A 23)).cell? ⟨W.heap.size, 2, none⟩ = some (.int .u64 c) := by rw [cell_of_block ((unhide O).at W.heap.size (.cells #[.int .u64 a, .int .u64 b, .int .u64 c] 39) (by simp))]; rfl
  have b0 : (w2.alloc (.cells A 23)).cell? ⟨W.heap.size + 1, 0, none⟩ = some (.int .i64 x) := by rw [cell_of_block ((unhide O).at (W.heap.size + 1) (.cells #[.int .i64 x, .int .i64 y] 35) (by simp))]; rfl
  have b1 : (w2.alloc (.cells A 23)).cell? ⟨W.heap.size + 1, 1, none⟩ = some (.int .i64 y) := by rw [cell_of_block ((unhide O).at (W.heap.size + 1) (.cells #[.int .i64 x, .int .i64 y] 35) (by simp))]; rfl
  go_wp2_with fail
  refine (unhide CI00 _).mono ?_
  rintro e w3 ⟨rfl, hb⟩
  replace O := hide ((unhide O).call hb)
  clear hb a0 a1 a2 b0 b1
  have a0 : w3.cell? ⟨W.heap.size, 0, none⟩ = some (.int .u64 a) := by rw [cell_of_block ((unhide O).at W.heap.size (.cells #[.int .u64 a, .int .u64 b, .int .u64 c] 39) (by simp))]; rfl
  have a1 : w3.cell? ⟨W.heap.size, 1, none⟩ = some (.int .u64 b) := by rw [cell_of_block ((unhide O).at W.heap.size (.cells #[.int .u64 a, .int .u64 b, .int .u64 c] 39) (by simp))]; rfl
  have a2 : w3.cell? ⟨W.heap.size, 2, none⟩ = some (.int .u64 c) := by rw [cell_of_block ((unhide O).at W.heap.size (.cells #[.int .u64 a, .int .u64 b, .int .u64 c] 39) (by simp))]; rfl
  have b0 : w3.cell? ⟨W.heap.size + 1, 0, none⟩ = some (.int .i64 x) := by rw [cell_of_block ((unhide O).at (W.heap.size + 1) (.cells #[.int .i64 x, .int .i64 y] 35) (by simp))]; rfl
  have b1 : w3.cell? ⟨W.heap.size + 1, 1, none⟩ = some (.int .i64 y) := by rw [cell_of_block ((unhide O).at (W.heap.size + 1) (.cells #[.int .i64 x, .int .i64 y] 35) (by simp))]; rfl
  go_wp2_with fail
  refine (unhide CI01 _).mono ?_
  rintro e w4 ⟨rfl, hb⟩
  replace O := hide ((unhide O).call hb)
  clear hb a0 a1 a2 b0 b1
  have a0 : w4.cell? ⟨W.heap.size, 0, none⟩ = some (.int .u64 a) := by rw [cell_of_block ((unhide O).at W.heap.size (.cells #[.int .u64 a, .int .u64 b, .int .u64 c] 39) (by simp))]; rfl
  have a1 : w4.cell? ⟨W.heap.size, 1, none⟩ = some (.int .u64 b) := by rw [cell_of_block ((unhide O).at W.heap.size (.cells #[.int .u64 a, .int .u64 b, .int .u64 c] 39) (by simp))]; rfl
  have a2 : w4.cell? ⟨W.heap.size, 2, none⟩ = some (.int .u64 c) := by rw [cell_of_block ((unhide O).at W.heap.size (.cells #[.int .u64 a, .int .u64 b, .int .u64 c] 39) (by simp))]; rfl
  have b0 : w4.cell? ⟨W.heap.size + 1, 0, none⟩ = some (.int .i64 x) := by rw [cell_of_block ((unhide O).at (W.heap.size + 1) (.cells #[.int .i64 x, .int .i64 y] 35) (by simp))]; rfl
  have b1 : w4.cell? ⟨W.heap.size + 1, 1, none⟩ = some (.int .i64 y) := by rw [cell_of_block ((unhide O).at (W.heap.size + 1) (.cells #[.int .i64 x, .int .i64 y] 35) (by simp))]; rfl
  go_wp2_with fail
  refine (unhide CI12 _).mono ?_
  rintro e w5 ⟨rfl, hb⟩
  replace O := hide ((unhide O).call hb)
  clear hb a0 a1 a2 b0 b1
  have a0 : w5.cell? ⟨W.heap.size, 0, none⟩ = some (.int .u64 a) := by rw [cell_of_block ((unhide O).at W.heap.size (.cells #[.int .u64 a, .int .u64 b, .int .u64 c] 39) (by simp))]; rfl
  have a1 : w5.cell? ⟨W.heap.size, 1, none⟩ = some (.int .u64 b) := by rw [cell_of_block ((unhide O).at W.heap.size (.cells #[.int .u64 a, .int .u64 b, .int .u64 c] 39) (by simp))]; rfl
  have a2 : w5.cell? ⟨W.heap.size, 2, none⟩ = some (.int .u64 c) := by rw [cell_of_block ((unhide O).at W.heap.size (.cells #[.int .u64 a, .int .u64 b, .int .u64 c] 39) (by simp))]; rfl
  have b0 : w5.cell? ⟨W.heap.size + 1, 0, none⟩ = some (.int .i64 x) := by rw [cell_of_block ((unhide O).at (W.heap.size + 1) (.cells #[.int .i64 x, .int .i64 y] 35) (by simp))]; rfl
  have b1 : w5.cell? ⟨W.heap.size + 1, 1, none⟩ = some (.int .i64 y) := by rw [cell_of_block ((unhide O).at (W.heap.size + 1) (.cells #[.int .i64 x, .int .i64 y] 35) (by simp))]; rfl
  go_wp2_with fail
  refine (unhide CI01 _).mono ?_
  rintro e w6 ⟨rfl, hb⟩
  replace O := hide ((unhide O).call hb)
  clear hb a0 a1 a2 b0 b1
  have a0 : w6.cell? ⟨W.heap.size, 0, none⟩ = some (.int .u64 a) := by rw [cell_of_block ((unhide O).at W.heap.size (.cells #[.int .u64 a, .int .u64 b, .int .u64 c] 39) (by simp))]; rfl
  have a1 : w6.cell? ⟨W.heap.size, 1, none⟩ = some (.int .u64 b) := by rw [cell_of_block ((unhide O).at W.heap.size (.cells #[.int .u64 a, .int .u64 b, .int .u64 c] 39) (by simp))]; rfl
  have a2 : w6.cell? ⟨W.heap.size, 2, none⟩ = some (.int .u64 c) := by rw [cell_of_block ((unhide O).at W.heap.size (.cells #[.int .u64 a, .int .u64 b, .int .u64 c] 39) (by simp))]; rfl
  have b0 : w6.cell? ⟨W.heap.size + 1, 0, none⟩ = some (.int .i64 x) := by rw [cell_of_block ((unhide O).at (W.heap.size + 1) (.cells #[.int .i64 x, .int .i64 y] 35) (by simp))]; rfl
  have b1 : w6.cell? ⟨W.heap.size + 1, 1, none⟩ = some (.int .i64 y) := by rw [cell_of_block ((unhide O).at (W.heap.size + 1) (.cells #[.int .i64 x, .int .i64 y] 35) (by simp))]; rfl
  go_wp2_with fail
  refine (unhide CM0 _).mono ?_
  rintro e w7 ⟨rfl, hb⟩
  replace O := hide ((unhide O).call hb)
  clear hb a0 a1 a2 b0 b1
  have a0 : w7.cell? ⟨W.heap.size, 0, none⟩ = some (.int .u64 a) := by rw [cell_of_block ((unhide O).at W.heap.size (.cells #[.int .u64 a, .int .u64 b, .int .u64 c] 39) (by simp))]; rfl
  have a1 : w7.cell? ⟨W.heap.size, 1, none⟩ = some (.int .u64 b) := by rw [cell_of_block ((unhide O).at W.heap.size (.cells #[.int .u64 a, .int .u64 b, .int .u64 c] 39) (by simp))]; rfl
  have a2 : w7.cell? ⟨W.heap.size, 2, none⟩ = some (.int .u64 c) := by rw [cell_of_block ((unhide O).at W.heap.size (.cells #[.int .u64 a, .int .u64 b, .int .u64 c] 39) (by simp))]; rfl
  have b0 : w7.cell? ⟨W.heap.size + 1, 0, none⟩ = some (.int .i64 x) := by rw [cell_of_block ((unhide O).at (W.heap.size + 1) (.cells #[.int .i64 x, .int .i64 y] 35) (by simp))]; rfl
  have b1 : w7.cell? ⟨W.heap.size + 1, 1, none⟩ = some (.int .i64 y) := by rw [cell_of_block ((unhide O).at (W.heap.size + 1) (.cells #[.int .i64 x, .int .i64 y] 35) (by simp))]; rfl
  go_wp2_with fail
  refine (unhide CO1 _).mono ?_
  rintro e w8 ⟨rfl, hb⟩
  replace O := hide (((unhide O).call hb).alloc (.cells A 23))
  clear hb a0 a1 a2 b0 b1
  have a0 : (w8.alloc (.cells A 23)).cell? ⟨W.heap.size, 0, none⟩ = some (.int .u64 a) := by rw [cell_of_block ((unhide O).at W.heap.size (.cells #[.int .u64 a, .int .u64 b, .int .u64 c] 39) (by simp))]; rfl
  have a1 : (w8.alloc (.cells A 23)).cell? ⟨W.heap.size, 1, none⟩ = some (.int .u64 b) := by rw [cell_of_block ((unhide O).at W.heap.size (.cells #[.int .u64 a, .int .u64 b, .int .u64 c] 39) (by simp))]; rfl
  have a2 : (w8.alloc (.cells A 23)).cell? ⟨W.heap.size, 2, none⟩ = some (.int .u64 c) := by rw [cell_of_block ((unhide O).at W.heap.size (.cells #[.int .u64 a, .int .u64 b, .int .u64 c] 39) (by simp))]; rfl
  have b0 : (w8.alloc (.cells A 23)).cell? ⟨W.heap.size + 1, 0, none⟩ = some (.int .i64 x) := by rw [cell_of_block ((unhide O).at (W.heap.size + 1) (.cells #[.int .i64 x, .int .i64 y] 35) (by simp))]; rfl
  have b1 : (w8.alloc (.cells A 23)).cell? ⟨W.heap.size + 1, 1, none⟩ = some (.int .i64 y) := by rw [cell_of_block ((unhide O).at (W.heap.size + 1) (.cells #[.int .i64 x, .int .i64 y] 35) (by simp))]; rfl
  go_wp2_with fail
  refine (unhide CO2 _).mono ?_
  rintro e w9 ⟨rfl, hb⟩
  replace O := hide (((unhide O).call hb).alloc (.cells B 23))
  clear hb a0 a1 a2 b0 b1
  have a0 : (w9.alloc (.cells B 23)).cell? ⟨W.heap.size, 0, none⟩ = some (.int .u64 a) := by rw [cell_of_block ((unhide O).at W.heap.size (.cells #[.int .u64 a, .int .u64 b, .int .u64 c] 39) (by simp))]; rfl
  have a1 : (w9.alloc (.cells B 23)).cell? ⟨W.heap.size, 1, none⟩ = some (.int .u64 b) := by rw [cell_of_block ((unhide O).at W.heap.size (.cells #[.int .u64 a, .int .u64 b, .int .u64 c] 39) (by simp))]; rfl
  have a2 : (w9.alloc (.cells B 23)).cell? ⟨W.heap.size, 2, none⟩ = some (.int .u64 c) := by rw [cell_of_block ((unhide O).at W.heap.size (.cells #[.int .u64 a, .int .u64 b, .int .u64 c] 39) (by simp))]; rfl
  have b0 : (w9.alloc (.cells B 23)).cell? ⟨W.heap.size + 1, 0, none⟩ = some (.int .i64 x) := by rw [cell_of_block ((unhide O).at (W.heap.size + 1) (.cells #[.int .i64 x, .int .i64 y] 35) (by simp))]; rfl
  have b1 : (w9.alloc (.cells B 23)).cell? ⟨W.heap.size + 1, 1, none⟩ = some (.int .i64 y) := by rw [cell_of_block ((unhide O).at (W.heap.size + 1) (.cells #[.int .i64 x, .int .i64 y] 35) (by simp))]; rfl
  go_wp2_with fail
  refine (unhide CI01 _).mono ?_
  rintro e w10 ⟨rfl, hb⟩
  replace O := hide ((unhide O).call hb)
  clear hb a0 a1 a2 b0 b1
  have a0 : w10.cell? ⟨W.heap.size, 0, none⟩ = some (.int .u64 a) := by rw [cell_of_block ((unhide O).at W.heap.size (.cells #[.int .u64 a, .int .u64 b, .int .u64 c] 39) (by simp))]; rfl
  have a1 : w10.cell? ⟨W.heap.size, 1, none⟩ = some (.int .u64 b) := by rw [cell_of_block ((unhide O).at W.heap.size (.cells #[.int .u64 a, .int .u64 b, .int .u64 c] 39) (by simp))]; rfl
  have a2 : w10.cell? ⟨W.heap.size, 2, none⟩ = some (.int .u64 c) := by rw [cell_of_block ((unhide O).at W.heap.size (.cells #[.int .u64 a, .int .u64 b, .int .u64 c] 39) (by simp))]; rfl
  have b0 : w10.cell? ⟨W.heap.size + 1, 0, none⟩ = some (.int .i64 x) := by rw [cell_of_block ((unhide O).at (W.heap.size + 1) (.cells #[.int .i64 x, .int .i64 y] 35) (by simp))]; rfl
  have b1 : w10.cell? ⟨W.heap.size + 1, 1, none⟩ = some (.int .i64 y) := by rw [cell_of_block ((unhide O).at (W.heap.size + 1) (.cells #[.int .i64 x, .int .i64 y] 35) (by simp))]; rfl
  go_wp2_with fail
  refine (unhide CI10 _).mono ?_
  rintro e w11 ⟨rfl, hb⟩
  replace O := hide ((unhide O).call hb)
  clear hb a0 a1 a2 b0 b1
  have a0 : w11.cell? ⟨W.heap.size, 0, none⟩ = some (.int .u64 a) := by rw [cell_of_block ((unhide O).at W.heap.size (.cells #[.int .u64 a, .int .u64 b, .int .u64 c] 39) (by simp))]; rfl
  have a1 : w11.cell? ⟨W.heap.size, 1, none⟩ = some (.int .u64 b) := by rw [cell_of_block ((unhide O).at W.heap.size (.cells #[.int .u64 a, .int .u64 b, .int .u64 c] 39) (by simp))]; rfl
  have a2 : w11.cell? ⟨W.heap.size, 2, none⟩ = some (.int .u64 c) := by rw [cell_of_block ((unhide O).at W.heap.size (.cells #[.int .u64 a, .int .u64 b, .int .u64 c] 39) (by simp))]; rfl
  have b0 : w11.cell? ⟨W.heap.size + 1, 0, none⟩ = some (.int .i64 x) := by rw [cell_of_block ((unhide O).at (W.heap.size + 1) (.cells #[.int .i64 x, .int .i64 y] 35) (by simp))]; rfl
  have b1 : w11.cell? ⟨W.heap.size + 1, 1, none⟩ = some (.int .i64 y) := by rw [cell_of_block ((unhide O).at (W.heap.size + 1) (.cells #[.int .i64 x, .int .i64 y] 35) (by simp))]; rfl
  go_wp2_with fail
  go_ret
  exact ⟨rfl, (unhide O).below⟩
theorem walk5 (a b c x y : Int) (h0 : 0 ≤ a ∧ a ≤ 18446744073709551615) (h1 : 0 ≤ b ∧ b ≤ 18446744073709551615) (h2 : 0 ≤ c ∧ c ≤ 18446744073709551615) (W : World) :
    Calls Try.prog 8 #[.agg #[.int .u64 a, .int .u64 b, .int .u64 c], .agg #[.int .i64 x, .int .i64 y]] W fun e W' => e = .returned (.bool true) ∧ Below W.heap.size W W' := by
  have H := ans a b c x y h0 h1 h2
  have T1 : inB a b = true → inB b c = true → inB a c = true := in_trans
  have T2 : inB a b = true → mayE a x y = 0 → mayE b x y = 0 := in_may
  have T3 : inB a b = true → inB b a = true → ((ofV a).r == (ofV b).r) = true := fun u v => by simpa using in_anti h0.1 h1.1 u v
  cases h01 : inB a b with
  | false =>
    rw [h01] at H
    exact way_no _ _ _ _ _ _ _ _ _ _ _ _ _ _ _ _ H W
  | true =>
    rw [h01] at H
    cases h12 : inB b c with
    | false =>
      rw [h12] at H
      by_cases hz : mayE a x y = 0
      · rw [T2 h01 hz, hz] at H
        cases h10 : inB b a with
        | false =>
          rw [h10] at H
          exact way_NZN _ _ _ _ _ _ _ _ _ _ 0 0 _ _ H W
        | true =>
          rw [h10] at H
          exact way_NZS _ _ _ _ _ _ _ _ _ _ 0 0 _ _ H (T3 h01 h10) W
      · have hz' : (mayE a x y == 0) = false := by simpa using hz
        cases h10 : inB b a with
        | false =>
          rw [h10] at H
          exact way_NNN _ _ _ _ _ _ _ _ _ _ _ _ _ _ H hz' W
        | true =>
          rw [h10] at H
          exact way_NNS _ _ _ _ _ _ _ _ _ _ _ _ _ _ H hz' (T3 h01 h10) W
    | true =>
      rw [h12] at H
      rw [T1 h01 h12] at H
      by_cases hz : mayE a x y = 0
      · rw [T2 h01 hz, hz] at H
        cases h10 : inB b a with
        | false =>
          rw [h10] at H
          exact way_QZN _ _ _ _ _ _ _ _ _ true 0 0 _ _ H W
        | true =>
          rw [h10] at H
          exact way_QZS _ _ _ _ _ _ _ _ _ true 0 0 _ _ H (T3 h01 h10) W
      · have hz' : (mayE a x y == 0) = false := by simpa using hz
        cases h10 : inB b a with
        | false =>
          rw [h10] at H
          exact way_QNN _ _ _ _ _ _ _ _ _ true _ _ _ _ H hz' W
        | true =>
          rw [h10] at H
          exact way_QNS _ _ _ _ _ _ _ _ _ true _ _ _ _ H hz' (T3 h01 h10) W
theorem walk (l : Tri) (p : Int × Int) (hl : IsTri l) (hp : IsTwo p) (W : World) :
    Calls Try.prog 8 #[.agg #[.int .u64 l.a, .int .u64 l.b, .int .u64 l.c], .agg #[.int .i64 p.1, .int .i64 p.2]] W fun e W' => e = .returned (.bool true) ∧ Below W.heap.size W W' :=
  walk5 l.a l.b l.c p.1 p.2 (wf_u hl.1) (wf_u hl.2.1) (wf_u hl.2.2) W

set_option maxRecDepth 100000 in
theorem lifted (os : Os) (started : os.Started) (H : Type) (enc : TypeId × Value → H) :
    ReturnsInHanded {} Try.checked os 8 .any (Rows.capsOrderSpec.pre6 enc Try.prog Try.f8 Rows.capsOrderRow.domain false) (Rows.capsOrderSpec.post enc Try.prog Try.f8 false true false false) := by
  refine law_frame (C := Try.checked) (ts := [39, 35]) (tb := 4) (by kernel_rfl) started (by kernel_rfl) Try.func8 Try.params8 (by kernel_rfl) Try.underlying4 (by kernel_rfl) (by kernel_rfl) rfl ?_
    (ChangeSpec.witness6 (enc := enc) (C := Try.checked) false ⟨#[], #[.agg #[.int .u64 0, .int .u64 0, .int .u64 0], .agg #[.int .i64 0, .int .i64 0]], []⟩ 8 (by kernel_rfl) (by kernel_rfl) (by kernel_rfl) (by kernel_rfl)) ?_
  · intro ds hd
    match ds, hd with
    | [d0, d1], _ => rfl
  · intro W base args ds p hval hA
    obtain ⟨v0, vs0, d0, ds0, p0, q0, hargs, rfl, rfl, h0, r0⟩ := trodAll_cons hA
    obtain ⟨v1, vs1, d1, ds1, p1, q1, rfl, rfl, rfl, h1, r1⟩ := trodAll_cons r0
    obtain ⟨rfl, rfl, rfl⟩ := trodAll_nil r1
    obtain rfl : args = #[v0, v1] := by cases args; simp_all
    obtain ⟨l, rfl, hl⟩ := open_tri (hval 0 39 v0 rfl rfl) h0
    obtain ⟨p, rfl, hp⟩ := open_two (hval 1 35 v1 rfl rfl) h1
    exact walk l p hl hp W

theorem over : Rows.capsOrderRow.holds Try.pinned (OpenSpec.ofChange Rows.capsOrderSpec) :=
  OpenClaim.holds_of_wide 8 Try.f8 rfl rfl rfl rfl rfl rfl rfl ⟨rfl, rfl, rfl, rfl, rfl⟩ rfl rfl rfl rfl rfl (by kernel_rfl) Try.func8 (by kernel_rfl)
    (of_decide_eq_true (by kernel_rfl)) (by unfold Func.isWrapper; first | (rw [if_pos (by decide +kernel)]; kernel_rfl) | (rw [if_neg (by decide +kernel)]; exact ⟨rfl, rfl⟩))
    (fun os started H enc _ => lifted os started H enc)

end Go.Proofs.Ytbgdmapmbjhbiaa.capsOrder
namespace Go.Proofs.Ytbgdmapmbjhbiaa
theorem capsOrder_holds : Rows.CapsOrderSaid := capsOrder.over
end Go.Proofs.Ytbgdmapmbjhbiaa
