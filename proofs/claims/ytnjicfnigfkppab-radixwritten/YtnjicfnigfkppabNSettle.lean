
/-
  What (*cell).settle does: the first n stores of a line are sure; nothing else turns.
-/
import Derived.Test.YtnjicfnigfkppabProg
import Derived.Test.YtnjicfnigfkppabChecked
import Derived.Test.YtnjicfnigfkppabNRep
import Derived.Deep.QuietTactic
import Derived.BigQuiet
import Derived.BigRegion
import Derived.Deep.Cut
namespace Go.Proofs.Ytnjicfnigfkppab
open Go.ChangeShapes Go.WideShapes Go.ChangeAt Go.RowKit Go.Joins
set_option linter.unusedVariables false

def Cel.settle (C : Cel) (n : Nat) : Cel := ⟨C.l.settle n, if C.cap = n then C.ad else C.ad.map fun p => (p.1, p.2 + n * 2), C.cap - n⟩
theorem Cel.settle_zero (C : Cel) : C.settle 0 = C := by
  cases C with | mk l ad cap =>
  unfold Cel.settle
  simp only [Ln.settle_zero, Nat.zero_mul, Nat.add_zero, Nat.sub_zero]
  split <;> simp

/-- The lines behind k stores made sure, of a line that lies at o. -/
def part1 (f : Nat → Value) (o : Nat) (C : Cel) (k : Nat) : Nat → Value := fun i => if o ≤ i ∧ i < o + 8 then .int .u64 (runS (C.l.t.take k) C.l.s (i - o)) else f i

/-- An element of an array of integers, by value. -/
theorem run_index_int (W : World) (cs : Array Value) (k : IntKind) (i : Nat) (h8 : i < 8) (v : Value) (h : cs[i]? = some v) :
    Sem.run Try.prog (Instr.index 58 (.agg cs) (.int k (i : Int))) W = .ok v W := by
  have h8' : (0 : Int) ≤ (i : Int) ∧ (i : Int) < 8 := by omega
  simp [Instr.index, run_underlying Try.underlying58, asIntOf, h8, go_sem, part, h]

def part2 (f : Nat → Value) (o : Nat) (C : Cel) (n j : Nat) : Nat → Value := fun i => if o + 17 ≤ i ∧ i < o + 17 + j then .int .i64 ((C.l.f (i - (o + 17)) - n : Nat) : Int) else f i

theorem part2_next {w : World} {c N o n j : Nat} {T : TypeId} {f : Nat → Value} {C : Cel} (h : Blk w c N T (part2 f o C n j)) (hj : j < 8) {z : Int} (hz : z = ((C.l.f j - n : Nat) : Int)) :
    Blk (w.setCell ⟨c, o + 17 + j, none⟩ (.int .i64 z)) c N T (part2 f o C n (j + 1)) := by
  refine (h.set _ _).ext fun i _ => ?_
  unfold part2
  by_cases hi : i = o + 17 + j
  · subst hi; rw [upd_same, if_pos (by omega), show o + 17 + j - (o + 17) = j by omega, hz]
  · rw [upd_other _ _ _ _ hi]
    by_cases h2 : o + 17 ≤ i ∧ i < o + 17 + j
    · rw [if_pos h2, if_pos (by omega)]
    · rw [if_neg h2, if_neg (by omega)]

theorem part_all {w : World} {c N o n : Nat} {T : TypeId} {f : Nat → Value} {C : Cel} (hf : ∀ j, j < 25 → f (o + j) = encAt C j) (h : Blk w c N T (part2 (upd (part1 f o C n) (o + 16) (encAt (C.settle n) 16)) o C n 8)) :
    Blk w c N T (putC f o (C.settle n)) := by
  refine h.ext fun i _ => ?_
  unfold putC
  by_cases h1 : o ≤ i ∧ i < o + 25
  · rw [if_pos h1]
    unfold part2
    by_cases h2 : o + 17 ≤ i ∧ i < o + 17 + 8
    · rw [if_pos h2]
      simp [encAt, Cel.settle, Ln.settle, show ¬ (i - o < 8) by omega, show ¬ (i - o < 16) by omega, show ¬ (i - o = 16) by omega, show i - o - 17 = i - (o + 17) by omega]
    · rw [if_neg h2]
      by_cases h3 : i = o + 16
      · subst h3; rw [upd_same, show o + 16 - o = 16 by omega]
      · rw [upd_other _ _ _ _ h3]
        unfold part1
        by_cases h4 : o ≤ i ∧ i < o + 8
        · rw [if_pos h4]; simp [encAt, Cel.settle, Ln.settle, show i - o < 8 by omega]
        · rw [if_neg h4]
          have := hf (i - o) (by omega)
          rw [show o + (i - o) = i by omega] at this
          rw [this]
          have hh : (C.settle n).l.has = C.l.has := Ln.settle_has _ _
          simp [encAt, hh, show ¬ (i - o < 8) by omega, show i - o < 16 by omega]
  · rw [if_neg h1]
    unfold part2
    rw [if_neg (by omega), upd_other _ _ _ _ (by omega)]
    unfold part1
    rw [if_neg (by omega)]

end Go.Proofs.Ytnjicfnigfkppab
