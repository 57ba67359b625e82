
/-
  The document's Of, Diminish, May and Within: what each returns, for whatever word, rights; nothing that was there turns.
-/
import Derived.Test.YtdmijjncninlbaaKRef
namespace Go.Proofs.Ytdmijjncninlbaa
open Go.ChangeShapes Go.WideShapes Go.ChangeAt Go.RowKit Go.Joins
set_option maxRecDepth 10000
set_option linter.unusedVariables false
set_option linter.unusedSimpArgs false

theorem rof_any (x : Int) (h0 : 0 ≤ x) (h1 : x ≤ 18446744073709551615) (w : World) : Calls Try.prog 26 #[.int .u64 x] w fun e w' => e = .returned (.tuple #[.agg (cv (ofV x)), .bool (isC x)]) ∧ Below w.heap.size w w' := by
  have F0 := hide (rfield_yes x 0 4 h0 h1 (by decide) (by decide) (by decide))
  have F1 := hide (rfield_yes x 4 4 h0 h1 (by decide) (by decide) (by decide))
  have F2 := hide (rfield_yes x 8 16 h0 h1 (by decide) (by decide) (by decide))
  have F3 := hide (rfield_yes x 24 24 h0 h1 (by decide) (by decide) (by decide))
  have F4 := hide (rfield_yes x 48 16 h0 h1 (by decide) (by decide) (by decide))
  have bd := ofC_bd x h0
  have M := hide (rword5 (fieldI x 0 4) (fieldI x 4 4) (fieldI x 8 16) (fieldI x 24 24) (fieldI x 48 16))
  have e0 : wordV ⟨fieldI x 0 4, fieldI x 4 4, fieldI x 8 16, fieldI x 24 24, fieldI x 48 16⟩ = if isC x then x else 0 := by
    show (if mayC (ofC x) then wordC (ofC x) else 0) = _
    rw [wordC_of x h0 h1]; rfl
  have e1 : wordE ⟨fieldI x 0 4, fieldI x 4 4, fieldI x 8 16, fieldI x 24 24, fieldI x 48 16⟩ = if isC x then 0 else 1 := rfl
  rw [e0, e1] at M
  clear e0 e1
  obtain ⟨b0, b1, b2, b3, b4, b5, b6, b7, b8, b9⟩ : 0 ≤ fieldI x 0 4 ∧ fieldI x 0 4 ≤ 15 ∧ 0 ≤ fieldI x 4 4 ∧ fieldI x 4 4 ≤ 15 ∧ 0 ≤ fieldI x 8 16 ∧ fieldI x 8 16 ≤ 65535 ∧ 0 ≤ fieldI x 24 24 ∧ fieldI x 24 24 ≤ 16777215 ∧ 0 ≤ fieldI x 48 16 ∧ fieldI x 48 16 ≤ 65535 := bd
  have hv : ofV x = if isC x then ⟨fieldI x 0 4, fieldI x 4 4, fieldI x 8 16, fieldI x 24 24, fieldI x 48 16⟩ else zc := rfl
  rw [hv]
  clear hv
  generalize fieldI x 0 4 = k at *
  generalize fieldI x 4 4 = r at *
  generalize fieldI x 8 16 = i at *
  generalize fieldI x 24 24 = v at *
  generalize fieldI x 48 16 = b at *
  generalize isC x = T at *
  cases T with
  | false =>
    rw [if_neg (by simp), if_neg (by simp)] at M
    rw [if_neg (by simp)]
    go_enter Try.func26, Try.ntmps26
    go_wp2_with fail
    refine (unhide F0 _).mono ?_
    rintro e w0 ⟨rfl, rfl⟩
    go_wp2_with fail
    refine (unhide F1 _).mono ?_
    rintro e w0 ⟨rfl, rfl⟩
    go_wp2_with fail
    refine (unhide F2 _).mono ?_
    rintro e w0 ⟨rfl, rfl⟩
    go_wp2_with fail
    refine (unhide F3 _).mono ?_
    rintro e w0 ⟨rfl, rfl⟩
    go_wp2_with fail
    refine (unhide F4 _).mono ?_
    rintro e w0 ⟨rfl, rfl⟩
    go_wp2_with fail
    refine (unhide M _).mono ?_
    rintro e w1 ⟨rfl, hb⟩
    have hsz : w.heap.size + 1 + 1 ≤ w1.heap.size := by have := hb.size; simpa using this
    have K0 := hide ((hb.block w.heap.size (by simp; omega)).trans (heap2 w _ _).1)
    have K1 := hide ((hb.block (w.heap.size + 1) (by simp)).trans (heap2 w _ _).2)
    have Hb := hide ((((Below.refl _ w).alloc (Nat.le_refl _) _).alloc (by simp) _).trans (hb.mono (by simp; omega)))
    clear hb M F0 F1 F2 F3 F4
    rw [zero5] at K0
    rw [show (#[.int .i64 k, .int .i64 r, .int .i64 i, .int .i64 v, .int .i64 b] : Array Value) = cv ⟨k, r, i, v, b⟩ from rfl] at K1
    have s5 : (Try.prog.info? 47).map (·.size) = some (cv ⟨k, r, i, v, b⟩).size := size5
    have s5z : (Try.prog.info? 47).map (·.size) = some (cv zc).size := size5
    go_wp2_with (first | (refine wpList_build0 rfl 47 rfl _ build5 ?_) | (refine wpList_store_row rfl 47 _ _ rfl w.heap.size (cv zc) rfl rfl _ _ (unhide K0) s5z rfl (cv_one _) ?_))
    refine bodyPost_ret (v := .tuple #[.agg (cv zc), .bool false]) (results_two Try.results26 _ _ w.heap.size 47 (cv zc) (0, 0) _ _ rfl rfl (setRow_heap _ _ _ _ _ _ (unhide K0)) Try.underlying47 rfl s5z) rfl ?_
    exact ⟨rfl, below_row (unhide Hb) (by omega) _⟩
  | true =>
    rw [if_pos rfl, if_pos rfl] at M
    rw [if_pos rfl]
    go_enter Try.func26, Try.ntmps26
    go_wp2_with fail
    refine (unhide F0 _).mono ?_
    rintro e w0 ⟨rfl, rfl⟩
    go_wp2_with fail
    refine (unhide F1 _).mono ?_
    rintro e w0 ⟨rfl, rfl⟩
    go_wp2_with fail
    refine (unhide F2 _).mono ?_
    rintro e w0 ⟨rfl, rfl⟩
    go_wp2_with fail
    refine (unhide F3 _).mono ?_
    rintro e w0 ⟨rfl, rfl⟩
    go_wp2_with fail
    refine (unhide F4 _).mono ?_
    rintro e w0 ⟨rfl, rfl⟩
    go_wp2_with fail
    refine (unhide M _).mono ?_
    rintro e w1 ⟨rfl, hb⟩
    have hsz : w.heap.size + 1 + 1 ≤ w1.heap.size := by have := hb.size; simpa using this
    have K0 := hide ((hb.block w.heap.size (by simp; omega)).trans (heap2 w _ _).1)
    have K1 := hide ((hb.block (w.heap.size + 1) (by simp)).trans (heap2 w _ _).2)
    have Hb := hide ((((Below.refl _ w).alloc (Nat.le_refl _) _).alloc (by simp) _).trans (hb.mono (by simp; omega)))
    clear hb M F0 F1 F2 F3 F4
    rw [zero5] at K0
    rw [show (#[.int .i64 k, .int .i64 r, .int .i64 i, .int .i64 v, .int .i64 b] : Array Value) = cv ⟨k, r, i, v, b⟩ from rfl] at K1
    have s5 : (Try.prog.info? 47).map (·.size) = some (cv ⟨k, r, i, v, b⟩).size := size5
    have s5z : (Try.prog.info? 47).map (·.size) = some (cv zc).size := size5
    go_wp2_with (first | (refine wpList_load_row rfl 47 _ rfl (w.heap.size + 1) rfl _ _ _ _ (unhide K1) Try.underlying47 rfl s5 ?_) | (refine wpList_store_row rfl 47 _ _ rfl w.heap.size (cv ⟨k, r, i, v, b⟩) rfl rfl _ _ (unhide K0) s5 rfl (cv_one _) ?_))
    refine bodyPost_ret (v := .tuple #[.agg (cv ⟨k, r, i, v, b⟩), .bool true]) (results_two Try.results26 _ _ w.heap.size 47 (cv ⟨k, r, i, v, b⟩) (0, 0) _ _ rfl rfl (setRow_heap _ _ _ _ _ _ (unhide K0)) Try.underlying47 rfl s5) rfl ?_
    exact ⟨rfl, below_row (unhide Hb) (by omega) _⟩

theorem dim_out {y z : Int} (h : ¬ (rtB y = true ∧ bdB z = true)) : (¬ 0 ≤ y) ∨ (0 ≤ y ∧ ¬ y ≤ 15) ∨ ((0 ≤ y ∧ y ≤ 15) ∧ ¬ 0 ≤ z) ∨ ((0 ≤ y ∧ y ≤ 15) ∧ 0 ≤ z ∧ ¬ z ≤ 65535) := by
  rw [rtB_iff, bdB_iff] at h
  omega


end Go.Proofs.Ytdmijjncninlbaa
