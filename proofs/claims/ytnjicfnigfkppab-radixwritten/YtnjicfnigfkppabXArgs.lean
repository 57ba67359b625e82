
/-
  The arguments of the statements of layer 9: tables, lines, seven numbers, by value; their comparisons.
-/
import Derived.Test.YtnjicfnigfkppabXShown
namespace Go.Proofs.Ytnjicfnigfkppab
open Go.ChangeShapes Go.WideShapes Go.ChangeAt Go.RowKit Go.Joins
set_option maxRecDepth 100000

def IsLineX (l : List Int) : Prop := l.length = 8 ∧ ∀ z ∈ l, (Lit.int .u64 z).wf = true
def IsTab (t : List Int) : Prop := t.length = 147 ∧ ∀ z ∈ t, (Lit.int .i64 z).wf = true
def IsSeven (t : List Int) : Prop := t.length = 7 ∧ ∀ z ∈ t, (Lit.int .i64 z).wf = true
theorem open_lineX {H : Type} {enc : TypeId × Value → H} {W : World} {r : Reach} {b0 base : Nat} {sp : Nat → Bool} {hd : Bool} {v : Value} {d : DataW H} {p : List MemPlace}
    (hv : Value.okWide Try.prog W r b0 32 v) (h : DataW.Trod enc Try.prog W base sp hd 32 v d p) : ∃ zs : List Int, v = .agg (iv .u64 zs) ∧ IsLineX zs := by
  obtain ⟨cs, rfl, hfit⟩ := flat_open 3 (ks := List.replicate 8 (some .u64)) (by kernel_rfl) (Or.inr ⟨_, _, Try.underlying32⟩) hv h
  obtain ⟨zs, hl, hz, hw⟩ := allFit_ints .u64 8 cs.toList hfit
  exact ⟨zs, by rw [iv, ← hz], hl, hw⟩
theorem open_seven {H : Type} {enc : TypeId × Value → H} {W : World} {r : Reach} {b0 base : Nat} {sp : Nat → Bool} {hd : Bool} {v : Value} {d : DataW H} {p : List MemPlace}
    (hv : Value.okWide Try.prog W r b0 29 v) (h : DataW.Trod enc Try.prog W base sp hd 29 v d p) : ∃ zs : List Int, v = .agg (iv .i64 zs) ∧ IsSeven zs := by
  obtain ⟨cs, rfl, hfit⟩ := flat_open 3 (ks := List.replicate 7 (some .i64)) (by kernel_rfl) (Or.inr ⟨_, _, Try.underlying29⟩) hv h
  obtain ⟨zs, hl, hz, hw⟩ := allFit_ints .i64 7 cs.toList hfit
  exact ⟨zs, by rw [iv, ← hz], hl, hw⟩
theorem open_tab {H : Type} {enc : TypeId × Value → H} {W : World} {r : Reach} {b0 base : Nat} {sp : Nat → Bool} {hd : Bool} {v : Value} {d : DataW H} {p : List MemPlace}
    (hv : Value.okWide Try.prog W r b0 26 v) (h : DataW.Trod enc Try.prog W base sp hd 26 v d p) : ∃ zs : List Int, v = .agg (iv .i64 zs) ∧ IsTab zs := by
  obtain ⟨cs, rfl, hfit⟩ := flat_open 3 (ks := List.replicate 147 (some .i64)) (by kernel_rfl) (Or.inr ⟨_, _, Try.underlying26⟩) hv h
  obtain ⟨zs, hl, hz, hw⟩ := allFit_ints .i64 147 cs.toList hfit
  exact ⟨zs, by rw [iv, ← hz], hl, hw⟩
theorem seven_guard : Try.prog.eqGuardType Try.prog.depth 29 = false := by kernel_rfl
theorem equal_seven (xs ys : List Int) (hx : xs.length = 7) (hy : ys.length = 7) (w : World) : (Op.equalIn 10000 29 (.agg (iv .i64 xs)) (.agg (iv .i64 ys))).run Try.prog w = .ok (decide (xs = ys)) w :=
  run_equalIn_ints w 9998 29 3 .i64 7 Try.underlying29 Try.underlying3 (by kernel_rfl) xs ys hx hy

end Go.Proofs.Ytnjicfnigfkppab
