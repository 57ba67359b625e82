
/-
  What '==' answers on arrays: element by element; on rows of integers: whether they are the same. Over any program.
-/
import Derived.Test.YtiafhcgaikapcaaGreatRows2
namespace Go.Proofs.YtiafhcgaikapcaaGreat
open Go.ChangeShapes Go.WideShapes Go.ChangeAt Go.RowKit Go.Joins

theorem run_sizeOf {P : Program} (w : World) (e : TypeId) (c : Nat) (hs : (P.info? e).map (·.size) = some c) : (sizeOf e).run P w = .ok c w := by
  cases hq : P.info? e with
  | none => simp [hq] at hs
  | some i => simp [sizeOf, typeInfo, hq] at hs ⊢; exact hs

/-- '==' on arrays, element by element. -/
theorem run_equalIn_array {P : Program} (w : World) (d : Nat) (t e : TypeId) (n c : Nat) (ht : P.underlying t = some (.array n e)) (hs : (P.info? e).map (·.size) = some c) (xs ys : Array Value)
    (A B : Nat → Value) (R : Nat → Bool) (hA : ∀ i, i < n → (part e xs (i * c)).run P w = .ok (A i) w) (hB : ∀ i, i < n → (part e ys (i * c)).run P w = .ok (B i) w)
    (hR : ∀ i, i < n → (Op.equalIn d e (A i) (B i)).run P w = .ok (R i) w) :
    (Op.equalIn (d + 1) t (.agg xs) (.agg ys)).run P w = .ok ((List.range n).all R) w := by
  simp only [Op.equalIn, Sem.run_bind, run_underlying ht, Result.andThen_ok, run_sizeOf w e c hs]
  rw [Std.Legacy.Range.forIn_eq_forIn_range']
  simp only [Std.Legacy.Range.size, Nat.sub_zero, Nat.add_sub_cancel, Nat.div_one]
  have key : ∀ (m s : Nat), s + m = n → Sem.run P (forIn (List.range' s m 1) (none, ()) fun i (_ : Option Bool × Unit) => do
            let a ← part e xs (i * c)
            let b ← part e ys (i * c)
            let r ← Op.equalIn d e a b
            if (!r) = true then pure (ForInStep.done (some false, ())) else pure (ForInStep.yield (none, ()))) w =
      .ok (if (List.range' s m 1).all R then (none, ()) else (some false, ())) w := by
    intro m
    induction m with
    | zero => intro s _; simp
    | succ m ih =>
      intro s hsm
      rw [List.range'_succ]
      simp only [List.forIn_cons, Sem.run_bind, hA s (by omega), hB s (by omega), hR s (by omega), Result.andThen_ok, List.all_cons]
      by_cases hr : R s = true
      · simp only [hr, Bool.not_true, Bool.false_eq_true, if_false, Sem.run_pure, Result.andThen_ok, Bool.true_and]
        exact ih (s + 1) (by omega)
      · have hr' : R s = false := by simpa using hr
        simp [hr']
  rw [key n 0 (by omega), Result.andThen_ok, List.range_eq_range']
  by_cases ha : (List.range' 0 n 1).all R = true
  · rw [if_pos ha, ha]; rfl
  · have ha' : (List.range' 0 n 1).all R = false := by simpa using ha
    rw [if_neg ha, ha']; rfl

theorem run_part_int {P : Program} (w : World) (e : TypeId) (k : IntKind) (he : P.underlying e = some (.int k)) (xs : List Int) (i : Nat) (hi : i < xs.length) :
    (part e (iv k xs) i).run P w = .ok (.int k (xs.getD i 0)) w := by
  have hagg : (isAgg e).run P w = .ok false w := by
    unfold isAgg
    rw [Sem.run_bind, run_underlying he w]
    simp
  simp [part, Sem.run_bind, hagg, iv_get k xs i hi]

theorem all_eq_iff (xs ys : List Int) (n : Nat) (hx : xs.length = n) (hy : ys.length = n) : ((List.range n).all fun i => xs.getD i 0 == ys.getD i 0) = decide (xs = ys) := by
  rw [Bool.eq_iff_iff, decide_eq_true_iff, List.all_eq_true]
  constructor
  · intro h
    apply List.ext_getElem?
    intro i
    by_cases hi : i < n
    · have := h i (by simpa using hi)
      rw [beq_iff_eq, List.getD_eq_getElem?_getD, List.getD_eq_getElem?_getD, List.getElem?_eq_getElem (by omega), List.getElem?_eq_getElem (by omega)] at this
      rw [List.getElem?_eq_getElem (by omega), List.getElem?_eq_getElem (by omega)]
      simpa using this
    · rw [List.getElem?_eq_none (by omega), List.getElem?_eq_none (by omega)]
  · rintro rfl i _
    simp

theorem run_equalIn_ints {P : Program} (w : World) (d : Nat) (t e : TypeId) (k : IntKind) (n : Nat) (ht : P.underlying t = some (.array n e)) (he : P.underlying e = some (.int k)) (hs : (P.info? e).map (·.size) = some 1)
    (xs ys : List Int) (hx : xs.length = n) (hy : ys.length = n) : (Op.equalIn (d + 1 + 1) t (.agg (iv k xs)) (.agg (iv k ys))).run P w = .ok (decide (xs = ys)) w := by
  rw [run_equalIn_array w (d + 1) t e n 1 ht hs (iv k xs) (iv k ys) (fun i => .int k (xs.getD i 0)) (fun i => .int k (ys.getD i 0)) (fun i => xs.getD i 0 == ys.getD i 0)
    (fun i hi => by rw [Nat.mul_one]; exact run_part_int w e k he xs i (by omega)) (fun i hi => by rw [Nat.mul_one]; exact run_part_int w e k he ys i (by omega))
    (fun i _ => run_equalIn_int w d e k k _ _ he), all_eq_iff xs ys n hx hy]

/-- In a region that draws its order: '==' on two arrays or structs yields what it answers, in whatever world. -/
theorem yieldsIf_eql {P : Program} {ops : Array Oper} {S : World → Prop} {op : Oper} {a : Act} (hw : Region.wanted op (yielded ops a.tmps) = true) (t t' : TypeId) (x y : Operand) (ho : op.op = .binOp .eql t x y t')
    (xs ys : Array Value) (hx : a.eval x = .agg xs) (hy : a.eval y = .agg ys) (hm : P.eqGuardType P.depth t = false) (b : Bool) (he : ∀ w, (Op.equalIn 10000 t (.agg xs) (.agg ys)).run P w = .ok b w) : YieldsIf P ops S op (.bool b) a :=
  .inl ⟨hw, fun w _ => by
    unfold execOp
    simp only [ho, hx, hy, Sem.run_bind, run_eqGuard_agg w .eql t x y xs ys hm, Result.andThen_ok, run_eql_struct, he, Sem.run_pure]⟩

end Go.Proofs.YtiafhcgaikapcaaGreat
