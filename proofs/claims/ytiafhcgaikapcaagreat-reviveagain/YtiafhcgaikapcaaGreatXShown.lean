
/-
  The document's examples, at the head of each statement of layer 9: they hold, and leave what was there as it was.
-/
import Derived.Test.YtiafhcgaikapcaaGreatPkXl
import Derived.Test.YtiafhcgaikapcaaGreatFlat
import Derived.Test.YtiafhcgaikapcaaGreatLaw
import Derived.Deep.Cut
namespace Go.Proofs.YtiafhcgaikapcaaGreat
open Go.ChangeShapes Go.WideShapes Go.ChangeAt Go.RowKit Go.Joins
set_option maxRecDepth 100000
set_option linter.unusedVariables false
set_option linter.unusedSimpArgs false

theorem build147 : Tryz.prog.built 66 [] = some (iv .i64 (zrow 49)) := by
  rw [zrow_zero]; kernel_rfl
/-- The zero value of a table. -/
theorem zval147 : ∀ w : World, Sem.run Tryz.prog (zeroValue 66) w = .ok (.agg (iv .i64 (zrow 49))) w := fun w => by
  have hz : (Tryz.prog.info? 66).map (·.zero) = some (some (.agg (iv .i64 (zrow 49)))) := by rw [zrow_zero]; kernel_rfl
  cases hq : Tryz.prog.info? 66 with
  | none => rw [hq] at hz; simp at hz
  | some i =>
    have h2 : i.zero = some (.agg (iv .i64 (zrow 49))) := by rw [hq] at hz; simpa using hz
    simp [zeroValue, typeInfo, hq, h2]
theorem zrow_ne : ¬ (iv .i64 (zrow 49) = #[]) := fun h => by
  have := congrArg Array.size h
  rw [iv_size, zrow_len] at this
  simp at this
theorem isX_nought (l : List Int) (h : l.getD 7 0 = 0) : isX l = false := by
  unfold isX goodB
  rw [h, decide_eq_false (by have := sealW_bd l; omega), Bool.and_false]
theorem isT_word (l : List Int) (h : l.getD 0 0 < 4294967296) : isT l = false := by
  cases hi : isT l with
  | false => rfl
  | true => have := ((isT_iff l).1 hi).1 0 (by omega); omega

def oneT : List Int := put3 (zrow 49) 8 ⟨1, 0, 5⟩
theorem oneT_len : oneT.length = 147 := by unfold oneT; rw [put3_len, zrow_len]
theorem oneT_cells : ((((iv .i64 (zrow 49)).setIfInBounds 24 (.int .i64 1)).setIfInBounds 25 (.int .i64 0)).setIfInBounds 26 (.int .i64 5)) = iv .i64 oneT := by
  rw [iv_set, iv_set, iv_set]; rfl
theorem df_one : dfTo (zrow 49) oneT 7 = [1] := by decide +kernel
theorem leaf_seven : leafKE (zrow 49) 7 = 1 := by decide
theorem leaf_zero : leafKE (zrow 49) 0 = 0 := by decide +kernel
theorem root_six : rootE [0, 0, 0, 0, 0, 0, 1024] = 1 := by decide
theorem leaf_word : (leafKV (zrow 49) 0).getD 0 0 = 0 := by
  have h1 : mayX (partT (zrow 49) 0) = true := by decide +kernel
  have h2 : leafKV (zrow 49) 0 = leafS (partT (zrow 49) 0) := by
    unfold leafKV leafV
    rw [if_pos (by decide), show Int.toNat 0 = 0 from rfl, if_pos h1]
  rw [h2]
  unfold leafS
  rw [lineG_get _ 0 (by omega), partT_at _ _ _ (by omega)]
  decide +kernel
theorem leafKV_wf (t : List Int) (k : Int) : ∀ z ∈ leafKV t k, (Lit.int .u64 z).wf = true := by
  have h8 : ∀ z ∈ zs8, (Lit.int .u64 z).wf = true := by decide
  unfold leafKV
  split
  · unfold leafV
    split
    · rename_i hm
      exact sealOf_wf _ (wUp_wf _ _ fun i h _ => by have := wordN_bd _ ((mayX_iff _).1 hm i h); omega)
    · exact h8
  · exact h8
theorem xzs8_wf : ∀ z ∈ zs8, (Lit.int .u64 z).wf = true := by decide

theorem RowX.cell {w : World} {base : Nat} {v : Value} {zs : List Int} (h : RowX base v zs w) (hne : zs ≠ []) : ∃ g cap, v = .slice (some ⟨g, 0, none⟩) zs.length cap ∧ base ≤ g ∧ zs.length ≤ cap ∧ ∀ i, i < zs.length → w.cell? ⟨g, i, none⟩ = some (.int .i64 (zs.getD i 0)) := by
  have hl : 0 < zs.length := List.length_pos_iff.2 hne
  rcases h.2 with ⟨rfl, h'⟩ | ⟨g, cap, cur, rfl, h1, h2, h3, h4, h5, h6⟩
  · omega
  · refine ⟨g, cap, rfl, h1, h3, fun i hi => ?_⟩
    rw [cell_of_block h2]
    have : (cur.toList.take (zs.length * 1))[i]? = some (.int .i64 (zs.getD i 0)) := by rw [h6]; simp [intsX, hi]
    rw [List.getElem?_take, if_pos (by omega), Array.getElem?_toList] at this
    exact this
theorem RowX.one {w : World} {base : Nat} {v : Value} {z : Int} (h : RowX base v [z] w) : ∃ g cap, v = .slice (some ⟨g, 0, none⟩) 1 cap ∧ w.cell? ⟨g, 0, none⟩ = some (.int .i64 z) ∧ 1 ≤ cap := by
  obtain ⟨g, cap, h1, -, h3, h4⟩ := h.cell (by simp)
  exact ⟨g, cap, h1, h4 0 (by simp), h3⟩
theorem RowX.none {w : World} {base : Nat} {v : Value} (h : RowX base v [] w) : (∃ a cap, v = .slice a 0 cap) := by
  rcases h.2 with ⟨rfl, h'⟩ | ⟨g, cap, cur, rfl, h1⟩
  · exact ⟨_, _, rfl⟩
  · exact ⟨_, _, rfl⟩

end Go.Proofs.YtiafhcgaikapcaaGreat
