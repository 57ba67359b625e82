
/-
  unmark: nothing is marked, and what nothing names is free; Commit, Abort.
-/
import Derived.Test.YtjmgmbigbkllgabOTells
import Derived.Test.YtjmgmbigbkllgabPkNvm
namespace Go.Proofs.Ytjmgmbigbkllgab
open Go.ChangeShapes Go.WideShapes Go.ChangeAt Go.RowKit Go.Joins
set_option maxRecDepth 10000
set_option linter.unusedVariables false
set_option linter.unusedSimpArgs false

/-! ### the row of what is named -/
def nmR (nm : Nat → Bool) : Array Value := tab 1024 fun i => .bool (nm i)
theorem nmR_size (nm : Nat → Bool) : (nmR nm).size = 1024 := tab_size _ _
theorem nmR_get (nm : Nat → Bool) (i : Nat) (h : i < 1024) : (nmR nm)[i]? = some (.bool (nm i)) := tab_get _ _ _ h
def nmP (nm : Nat → Bool) (z : Int) : Nat → Bool := fun i => nm i || z == (i : Int)
theorem nmR_put (nm : Nat → Bool) (i : Nat) : (nmR nm).setIfInBounds i (.bool true) = nmR (nmP nm (i : Int)) := by
  unfold nmR
  rw [tab_set]
  refine tab_ext fun j _ => ?_
  unfold nmP
  by_cases e : j = i
  · subst e; rw [upd_same]; simp
  · rw [upd_other _ _ _ _ e]
    have : ((i : Int) == (j : Int)) = false := by simp; omega
    rw [this, Bool.or_false]
theorem nmR_out (nm : Nat → Bool) (z : Int) (h : ¬ (0 ≤ z ∧ z < 1024)) : nmR nm = nmR (nmP nm z) := by
  unfold nmR
  refine tab_ext fun j hj => ?_
  unfold nmP
  have : (z == (j : Int)) = false := by simp; omega
  rw [this, Bool.or_false]

/-! ### what is named so far -/
def nmD (d : Nat → Int) (j : Nat) : Nat → Bool := fun i => (List.range j).any fun q => d q == (i : Int)
theorem nmD_next (d : Nat → Int) (j : Nat) : nmD d (j + 1) = nmP (nmD d j) (d j) := by
  funext i; unfold nmD nmP; rw [List.range_succ, List.any_append]; simp
theorem nmD_all (d : Nat → Int) (i : Nat) : nmD d 8 i = inD d (i : Int) := rfl
def nmT (nm : Nat → Bool) (f : Nat → En) (j : Nat) : Nat → Bool := fun i => nm i || hasTo f (i : Int) j
theorem nmT_zero (nm : Nat → Bool) (f : Nat → En) : nmT nm f 0 = nm := by funext i; unfold nmT; rw [hasTo_zero, Bool.or_false]
theorem nmT_in (nm : Nat → Bool) (f : Nat → En) (j : Nat) (h : (f j).k ≠ 0) : nmT nm f (j + 1) = nmP (nmT nm f j) (f j).l := by
  funext i; unfold nmT nmP; rw [hasTo_next, ← Bool.or_assoc]
  congr 1
  unfold atB
  rw [Bool.eq_iff_iff, decide_eq_true_iff, beq_iff_eq]
  exact ⟨fun q => q.2, fun q => ⟨h, q⟩⟩
theorem nmT_out (nm : Nat → Bool) (f : Nat → En) (j : Nat) (h : (f j).k = 0) : nmT nm f (j + 1) = nmT nm f j := by
  funext i; unfold nmT; rw [hasTo_next, atB_no (fun q => q.1 h), Bool.or_false]

/-! ### two tables by value -/
def ttV (f g : Nat → En) : Array Value := tabV f ++ tabV g
theorem ext0 {α : Type} (a b : Array α) (n : Nat) (h : a.size = n) : (a ++ b).extract 0 n = a := by
  subst h; simp
theorem ext1 {α : Type} (a b : Array α) (n m : Nat) (h : a.size = n) (h2 : b.size + n = m) : (a ++ b).extract n m = b := by
  subst h; subst h2
  apply Array.ext_getElem?
  intro i
  rw [Array.getElem?_extract, Array.getElem?_append]
  by_cases hi : i < b.size
  · rw [if_pos (by simp; omega), if_neg (by omega)]; congr 1; omega
  · rw [if_neg (by simp; omega), Array.getElem?_eq_none (by omega)]
theorem tt_0 (f g : Nat → En) : (ttV f g).extract 0 147 = tabV f := ext0 _ _ _ (tabV_size f)
theorem tt_1 (f g : Nat → En) : (ttV f g).extract 147 (147 + 147) = tabV g := ext1 _ _ _ _ (tabV_size f) (by rw [tabV_size])
theorem run_index_dir (W : World) (d : Nat → Int) (i : Nat) (h8 : i < 8) :
    Sem.run Try.prog (Instr.index 62 (.agg (dirV d)) (.int .i64 (i : Int))) W = .ok (.int .i64 (d i)) W := by
  have h8' : (0 : Int) ≤ (i : Int) ∧ (i : Int) < 8 := by omega
  have h : (dirV d)[i]? = some (.int .i64 (d i)) := by
    have := congrArg (fun l => l[i]?) (dirV_list d)
    simp only [Array.getElem?_toList] at this
    rw [this, List.getElem?_map, List.getElem?_range h8]; rfl
  simp [Instr.index, run_underlying Try.underlying62, asIntOf, h8, go_sem, part, h]
section
variable {W : World} {St : World → (Nat → Prop) → Prop} {w0 w w' : World} {G : Nat → Prop} {L : List (Nat × Obj)}
/-- The block that was laid last turns. -/
theorem Held.turnHd (S : Stay W St) {g : Nat} {o : Obj} (o' : Obj) (h : Held W St w0 w G ((g, o) :: L)) (hne : ∀ p ∈ L, p.1 ≠ g) (hk : Keeps (· = g) w w') (ho : w'.heap[g]? = some o') : Held W St w0 w' G ((g, o') :: L) :=
  (h.turnOwn S g o o' List.mem_cons_self hk ho).less S fun p hp => by
    rcases List.mem_cons.1 hp with rfl | hp
    · exact List.mem_cons_self
    · exact List.mem_cons_of_mem _ (List.mem_filter.2 ⟨List.mem_cons_of_mem _ hp, by simpa using hne p hp⟩)
end

/-! ### unmark -/
def Sto.unm (S : Sto) : Sto := ⟨S.F, S.w, S.b, S.d, fun _ => ze, false⟩
def nmC (S : Sto) : Nat → Nat → Bool
  | 0 => nmD S.d 8
  | 1 => nmT (nmD S.d 8) S.b 49
  | _ => nmT (nmT (nmD S.d 8) S.b 49) S.w 49
theorem nmC_next (S : Sto) (c : Nat) (h : c < 2) : nmC S (c + 1) = nmT (nmC S c) (if c = 0 then S.b else S.w) 49 := by
  rcases (show c = 0 ∨ c = 1 by omega) with rfl | rfl <;> rfl
def Sto.swept (S : Sto) (nm : Nat → Bool) (j : Nat) : Sto := S.unm.withF (S.F.freeTo nm j)
theorem tabV_ze : tabV (fun _ => ze) = iv .i64 (zrow 49) := rfl
theorem build_tab : Try.prog.built 55 [] = some (tabV fun _ => ze) := by kernel_rfl

end Go.Proofs.Ytjmgmbigbkllgab
