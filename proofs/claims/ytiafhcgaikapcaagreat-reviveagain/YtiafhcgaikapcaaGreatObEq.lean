
/-
  '==' and '!=' on whole objects.
-/
import Derived.Test.YtiafhcgaikapcaaGreatPkTel
namespace Go.Proofs.YtiafhcgaikapcaaGreat
open Go.ChangeShapes Go.WideShapes Go.ChangeAt Go.RowKit Go.Joins
set_option maxRecDepth 10000
set_option linter.unusedVariables false
set_option linter.unusedSimpArgs false

theorem ob_fields : ((Tryz.prog.fieldsOf 88).toList.map fun f => (decide (f.name = "_"), f.type, f.offset)) = [(false, 3, 0), (false, 3, 1), (false, 83, 2)] := by kernel_rfl
theorem ob_guard : Tryz.prog.eqGuardType Tryz.prog.depth 88 = false := by kernel_rfl
theorem ln_iv (f : Nat → Int) : lnV f = iv .u64 ((List.range 8).map f) := by
  refine Array.ext_getElem? fun i => ?_
  by_cases h : i < 8
  · rw [lnV_get f i h, ← Array.getElem?_toList]
    simp [iv, h]
  · rw [Array.getElem?_eq_none (by rw [lnV_size]; omega), Array.getElem?_eq_none (by rw [iv_size]; simp; omega)]
theorem run_part_ln (w : World) (k v : Int) (f : Nat → Int) : (part 83 (obV k v f) 2).run Tryz.prog w = .ok (.agg (lnV f)) w := by
  have hagg : (isAgg 83).run Tryz.prog w = .ok true w := by
    unfold isAgg
    rw [Sem.run_bind, run_underlying Tryz.underlying83 w]
    simp
  have hs : (sizeOf 83).run Tryz.prog w = .ok 8 w := run_sizeOf w 83 8 (by kernel_rfl)
  have he : (obV k v f).extract 2 (2 + 8) = lnV f := by
    unfold obV
    refine Array.ext_getElem? fun i => ?_
    rw [Array.getElem?_extract]
    by_cases h : i < 8
    · rw [if_pos (by rw [Array.size_append, lnV_size]; simp; omega), Array.getElem?_append_right (by simp)]
      simp
    · rw [if_neg (by rw [Array.size_append, lnV_size]; simp; omega), Array.getElem?_eq_none (by rw [lnV_size]; omega)]
  simp [part, Sem.run_bind, hagg, hs, he]
theorem equal_ln (d : Nat) (f : Nat → Int) (w : World) : (Op.equalIn (d + 2) 83 (.agg (lnV f)) (.agg (lnV f))).run Tryz.prog w = .ok true w := by
  rw [ln_iv]
  have := run_equalIn_ints w d 83 52 .u64 8 Tryz.underlying83 Tryz.underlying52 (by kernel_rfl) ((List.range 8).map f) ((List.range 8).map f) (by simp) (by simp)
  rw [decide_eq_true rfl] at this
  exact this
theorem ob_0 (k v : Int) (f : Nat → Int) : (obV k v f)[0]? = some (.int .i64 k) := by unfold obV; rw [Array.getElem?_append_left (by simp)]; rfl
theorem ob_1 (k v : Int) (f : Nat → Int) : (obV k v f)[1]? = some (.int .i64 v) := by unfold obV; rw [Array.getElem?_append_left (by simp)]; rfl
theorem equal_ob (k v : Int) (f : Nat → Int) (w : World) : (Op.equalIn 10000 88 (.agg (obV k v f)) (.agg (obV k v f))).run Tryz.prog w = .ok true w := by
  rw [run_equalIn_struct w 9999 88 _ _ (by kernel_rfl) (by kernel_rfl)]
  have hf := ob_fields
  generalize (Tryz.prog.fieldsOf 88).toList = fs at hf
  have hl : fs.length = 3 := by have := congrArg List.length hf; simpa using this
  match fs, hl, hf with
  | [f0, f1, f2], _, hf =>
    simp only [List.map_cons, List.map_nil, List.cons.injEq, Prod.mk.injEq, decide_eq_false_iff_not, and_true] at hf
    obtain ⟨⟨a0, b0, c0⟩, ⟨a1, b1, c1⟩, ⟨a2, b2, c2⟩⟩ := hf
    have e : (k == k && (v == v && true)) = true := by simp
    rw [← e]
    refine run_eqField w 9998 _ _ f0 _ .i64 k k a0 (by rw [b0]; exact Tryz.underlying3) (by rw [c0]; exact ob_0 _ _ _) (by rw [c0]; exact ob_0 _ _ _) _ ?_
    refine run_eqField w 9998 _ _ f1 _ .i64 v v a1 (by rw [b1]; exact Tryz.underlying3) (by rw [c1]; exact ob_1 _ _ _) (by rw [c1]; exact ob_1 _ _ _) _ ?_
    rw [Op.eqFields, if_pos a2]
    simp only [b2, c2, Sem.run_bind, run_part_ln, Result.andThen_ok, equal_ln]
    simp [Op.eqFields]

end Go.Proofs.YtiafhcgaikapcaaGreat
