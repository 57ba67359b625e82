
/-
  What (*cell).lose and Crash do.
-/
import Derived.Test.YtnjicfnigfkppabNLoad
namespace Go.Proofs.Ytnjicfnigfkppab
open Go.ChangeShapes Go.WideShapes Go.ChangeAt Go.RowKit Go.Joins
set_option maxRecDepth 10000
set_option linter.unusedVariables false
set_option linter.unusedSimpArgs false

theorem yieldsIf_build2 {P : Program} {ops : Array Oper} {S : World → Prop} {op : Oper} {a : Act} (hw : Region.wanted op (yielded ops a.tmps) = true) (t : TypeId) (i j : Nat) (x y : Operand) (ho : op.op = .build t #[(i, x), (j, y)])
    (u v : Value) (hx : a.eval x = u) (hy : a.eval y = v) (cs : Array Value) (hb : P.built t [(i, u), (j, v)] = some cs) : YieldsIf P ops S op (.agg cs) a :=
  Or.inl ⟨hw, fun w _ => by
    have h := run_build (P := P) w t #[(i, u), (j, v)] cs hb
    unfold execOp
    simp [ho, hx, hy, Sem.run_bind, h]⟩

def Cel.fresh (s : Nat → Int) : Cel := ⟨Ln.of s, none, 0⟩
theorem built_cell (s : Nat → Int) : Try.prog.built 60 [(0, .agg (lnV s)), (1, .agg (lnV s))] = some (tab 25 (encAt (Cel.fresh s))) := by kernel_rfl
theorem csize : (Try.prog.info? 60).map (·.size) = some 25 := by kernel_rfl

theorem encAt_one (C : Cel) (j : Nat) : (encAt C j).oneCell' = true := by
  unfold encAt
  split
  · rfl
  · split
    · rfl
    · split <;> rfl
theorem tabC_one (C : Cel) : (tab 25 (encAt C)).all (·.oneCell') = true := by
  rw [Array.all_eq_true_iff_forall_mem]
  intro v hv
  simp only [tab, List.mem_toArray, List.mem_map] at hv
  obtain ⟨j, _, rfl⟩ := hv
  exact encAt_one C j

/-- 25 cells stored at once. -/
theorem Blk.putC {w : World} {c N : Nat} {T : TypeId} {f : Nat → Value} (h : Blk w c N T f) (o : Nat) (C : Cel) : Blk (w.setCells c o (tab 25 (encAt C)).toList) c N T (putC f o C) := by
  refine (Blk.sets (tab 25 (encAt C)).toList w f o h).ext fun i _ => ?_
  have hl : (tab 25 (encAt C)).toList.length = 25 := by simp [tab]
  rw [hl]
  unfold Go.Proofs.Ytnjicfnigfkppab.putC
  by_cases hi : o ≤ i ∧ i < o + 25
  · rw [if_pos hi, if_pos hi]
    have : (tab 25 (encAt C)).toList[i - o]? = some (encAt C (i - o)) := by
      have := tab_get 25 (encAt C) (i - o) (by omega)
      simpa using this
    rw [List.getD_eq_getElem?_getD, this]; rfl
  · rw [if_neg hi, if_neg hi]

theorem Keeps.setCells {F : Nat → Prop} {a : World} {c : Nat} (hc : F c ∨ a.heap.size ≤ c) (vs : List Value) : ∀ (o : Nat) (w : World), Keeps F a w → Keeps F a (w.setCells c o vs) := by
  induction vs with
  | nil => intro o w h; exact h
  | cons v r ih =>
    intro o w h
    refine ih (o + 1) _ ?_
    rcases hc with hc | hc
    · exact Keeps.setCell (p := ⟨c, o, none⟩) h hc _
    · exact Keeps.setCell_new (p := ⟨c, o, none⟩) h hc _

/-- The lines of which the first k have crashed. -/
def crashTo (A : Mm) (keep : List Int) (k : Nat) : Nat → Ln := fun i => if i < k then crashL keep A.l i else A.l i
theorem crashTo_zero (A : Mm) (keep : List Int) : crashTo A keep 0 = A.l := by funext i; simp [crashTo]
theorem crashTo_next (A : Mm) (keep : List Int) (k : Nat) : upd (crashTo A keep k) k (crashL keep A.l k) = crashTo A keep (k + 1) := by
  funext i
  unfold crashTo
  by_cases hi : i = k
  · subst hi; rw [upd_same, if_pos (by omega)]
  · rw [upd_other _ _ _ _ hi]
    by_cases h2 : i < k
    · rw [if_pos h2, if_pos (by omega)]
    · rw [if_neg h2, if_neg (by omega)]
theorem crashL_sure (keep : List Int) (l : Nat → Ln) (k : Nat) (hok : (l k).ok) (h0 : (l k).t.length = 0) : crashL keep l k = l k := by
  have ht : (l k).t = [] := List.length_eq_zero_iff.1 h0
  have hf : (l k).f = fun _ => 0 := by funext j; have := hok.2.2 j; omega
  unfold crashL
  cases h : l k with
  | mk s t f =>
    rw [h] at ht hf
    simp only at ht hf
    subst ht hf
    simp [Ln.settle, Ln.lose, runS]

end Go.Proofs.Ytnjicfnigfkppab
