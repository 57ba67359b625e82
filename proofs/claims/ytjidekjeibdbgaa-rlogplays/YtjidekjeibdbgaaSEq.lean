
/-
  '==' and '!=' on whole values outside drawn regions; on superblocks. 
-/
import Derived.Test.YtjidekjeibdbgaaEqual
import Derived.Test.YtjidekjeibdbgaaProg
import Derived.Laws.StructEq
namespace Go.Proofs.Ytjidekjeibdbgaa
open Go.ChangeShapes Go.WideShapes Go.ChangeAt Go.RowKit Go.Joins
set_option maxRecDepth 10000

theorem wpList_neqA {P : Program} {ops : Array Oper} {rest : List Oper} {o : Oper} {a : Act} {w : World} {Q : Exit → Act → World → Prop} (hw : Region.wanted o (yielded ops a.tmps) = true) (t t' : TypeId) (x y : Operand) (ho : o.op = .binOp .neq t x y t')
    (xs ys : Array Value) (hx : a.eval x = .agg xs) (hy : a.eval y = .agg ys) (hm : P.eqGuardType P.depth t = false) (b : Bool) (he : ∀ w, (Op.equalIn 10000 t (.agg xs) (.agg ys)).run P w = .ok b w) (h : wpList P ops Q rest (a.put o.dst (.bool (!b))) w) : wpList P ops Q (o :: rest) a w :=
  wpList_step fun K hK => by
    rw [if_pos hw]
    unfold Oper.wp execOp
    simp only [ho, hx, hy, Sem.run_bind, run_eqGuard_agg w .neq t x y xs ys hm, Result.andThen_ok, run_neq_struct, he, Sem.run_pure]
    exact hK _ _ h
theorem wpList_eqlA {P : Program} {ops : Array Oper} {rest : List Oper} {o : Oper} {a : Act} {w : World} {Q : Exit → Act → World → Prop} (hw : Region.wanted o (yielded ops a.tmps) = true) (t t' : TypeId) (x y : Operand) (ho : o.op = .binOp .eql t x y t')
    (xs ys : Array Value) (hx : a.eval x = .agg xs) (hy : a.eval y = .agg ys) (hm : P.eqGuardType P.depth t = false) (b : Bool) (he : ∀ w, (Op.equalIn 10000 t (.agg xs) (.agg ys)).run P w = .ok b w) (h : wpList P ops Q rest (a.put o.dst (.bool b)) w) : wpList P ops Q (o :: rest) a w :=
  wpList_step fun K hK => by
    rw [if_pos hw]
    unfold Oper.wp execOp
    simp only [ho, hx, hy, Sem.run_bind, run_eqGuard_agg w .eql t x y xs ys hm, Result.andThen_ok, run_eql_struct, he, Sem.run_pure]
    exact hK _ _ h
theorem yieldsIf_neqA {P : Program} {ops : Array Oper} {S : World → Prop} {op : Oper} {a : Act} (hw : Region.wanted op (yielded ops a.tmps) = true) (t t' : TypeId) (x y : Operand) (ho : op.op = .binOp .neq t x y t')
    (xs ys : Array Value) (hx : a.eval x = .agg xs) (hy : a.eval y = .agg ys) (hm : P.eqGuardType P.depth t = false) (b : Bool) (he : ∀ w, (Op.equalIn 10000 t (.agg xs) (.agg ys)).run P w = .ok b w) : YieldsIf P ops S op (.bool (!b)) a :=
  .inl ⟨hw, fun w _ => by
    unfold execOp
    simp only [ho, hx, hy, Sem.run_bind, run_eqGuard_agg w .neq t x y xs ys hm, Result.andThen_ok, run_neq_struct, he, Sem.run_pure]⟩

/-- '==' on structs of integers of one kind, one cell each, in order. -/
theorem run_eqFields_ints {P : Program} (w : World) (d : Nat) (e : TypeId) (k : IntKind) (he : P.underlying e = some (.int k)) (xs ys : List Int) (hl : xs.length = ys.length) :
    ∀ (fs : List Field) (j : Nat), (∀ i f, fs[i]? = some f → f.name ≠ "_" ∧ f.type = e ∧ f.offset = j + i) → j + fs.length = xs.length →
      (Op.eqFields (d + 1) (iv k xs) (iv k ys) fs).run P w = .ok (decide (xs.drop j = ys.drop j)) w
  | [], j, _, hj => by
    have h1 : xs.drop j = [] := List.drop_eq_nil_of_le (by simp at hj; omega)
    have h2 : ys.drop j = [] := List.drop_eq_nil_of_le (by simp at hj; omega)
    simp [Op.eqFields, h1, h2]
  | f :: fs, j, hf, hj => by
    obtain ⟨h1, h2, h3⟩ := hf 0 f rfl
    have hjl : j < xs.length := by simp at hj; omega
    rw [Op.eqFields, if_pos h1, h2, h3, Nat.add_zero]
    simp only [Sem.run_bind, run_part_int w e k he xs j hjl, run_part_int w e k he ys j (by omega), Result.andThen_ok, run_equalIn_int w d e k k _ _ he]
    have ih := run_eqFields_ints w d e k he xs ys hl fs (j + 1) (fun i g hg => by have := hf (i + 1) g hg; exact ⟨this.1, this.2.1, by omega⟩) (by simp at hj; omega)
    have hx : xs.drop j = xs.getD j 0 :: xs.drop (j + 1) := by rw [List.drop_eq_getElem_cons hjl, List.getD_eq_getElem?_getD, List.getElem?_eq_getElem hjl]; rfl
    have hy : ys.drop j = ys.getD j 0 :: ys.drop (j + 1) := by rw [List.drop_eq_getElem_cons (by omega), List.getD_eq_getElem?_getD, List.getElem?_eq_getElem (by omega)]; rfl
    rw [hx, hy]
    by_cases hq : xs.getD j 0 = ys.getD j 0
    · rw [hq]
      simp only [beq_self_eq_true, Bool.not_true, Bool.false_eq_true, if_false]
      rw [ih]; simp
    · have : (xs.getD j 0 == ys.getD j 0) = false := by simpa using hq
      rw [this]
      simp only [Bool.not_false, if_true, Sem.run_pure]
      congr 1
      symm
      rw [decide_eq_false_iff_not]
      intro h
      exact hq (List.cons.inj h).1
theorem line_guard2 : Try.prog.eqGuardType Try.prog.depth 26 = false := by kernel_rfl
theorem equal_line (s t : List Int) (hs : s.length = 8) (ht : t.length = 8) (w : World) : (Op.equalIn 10000 26 (.agg (iv .u64 s)) (.agg (iv .u64 t))).run Try.prog w = .ok (decide (s = t)) w :=
  run_equalIn_ints w 9998 26 22 .u64 8 Try.underlying26 Try.underlying22 (by kernel_rfl) _ _ hs ht

end Go.Proofs.Ytjidekjeibdbgaa
