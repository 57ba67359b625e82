
/-
  The arguments of the statements of layer 5: superblocks and lines by value.
-/
import Derived.Test.YtmmgacpipcgkdabSShown
import Derived.Test.YtmmgacpipcgkdabOwn
import Derived.Test.YtmmgacpipcgkdabFlat
import Derived.Test.YtmmgacpipcgkdabLaw
namespace Go.Proofs.Ytmmgacpipcgkdab
open Go.ChangeShapes Go.WideShapes Go.ChangeAt Go.RowKit Go.Joins

/-- A whole value built of nothing, behind a guard that says yes. -/
theorem wpList_build0g {P : Program} {ops : Array Oper} {rest : List Oper} {o : Oper} {a : Act} {w : World} {Q : Exit → Act → World → Prop} (hw : Region.wanted o (yielded ops a.tmps) = true) (t : TypeId) (ho : o.op = .build t #[]) (cs : Array Value) (hb : P.built t [] = some cs)
    (h : wpList P ops Q rest (a.put o.dst (.agg cs)) w) : wpList P ops Q (o :: rest) a w :=
  wpList_step fun K hK => by
    rw [if_pos hw]
    unfold Oper.wp execOp
    simp only [ho, Sem.run_bind, Array.map_empty, run_build w t #[] cs hb, Result.andThen_ok]
    exact hK _ _ h
def IsSuper (s : List Int) : Prop := s.length = 4 ∧ ∀ z ∈ s, (Lit.int .i64 z).wf = true
def IsLine (l : List Int) : Prop := l.length = 8 ∧ ∀ z ∈ l, (Lit.int .u64 z).wf = true
theorem open_super {H : Type} {enc : TypeId × Value → H} {W : World} {r : Reach} {b0 base : Nat} {sp : Nat → Bool} {hd : Bool} {v : Value} {d : DataW H} {p : List MemPlace}
    (hv : Value.okWide Try.prog W r b0 23 v) (h : DataW.Trod enc Try.prog W base sp hd 23 v d p) : ∃ zs : List Int, v = .agg (iv .i64 zs) ∧ IsSuper zs := by
  obtain ⟨cs, rfl, hfit⟩ := flat_open 3 (ks := List.replicate 4 (some .i64)) (by kernel_rfl) (Or.inl ⟨_, Try.underlying23⟩) hv h
  obtain ⟨zs, hl, hz, hw⟩ := allFit_ints .i64 4 cs.toList hfit
  exact ⟨zs, by rw [iv, ← hz], hl, hw⟩
theorem open_line {H : Type} {enc : TypeId × Value → H} {W : World} {r : Reach} {b0 base : Nat} {sp : Nat → Bool} {hd : Bool} {v : Value} {d : DataW H} {p : List MemPlace}
    (hv : Value.okWide Try.prog W r b0 28 v) (h : DataW.Trod enc Try.prog W base sp hd 28 v d p) : ∃ zs : List Int, v = .agg (iv .u64 zs) ∧ IsLine zs := by
  obtain ⟨cs, rfl, hfit⟩ := flat_open 3 (ks := List.replicate 8 (some .u64)) (by kernel_rfl) (Or.inr ⟨_, _, Try.underlying28⟩) hv h
  obtain ⟨zs, hl, hz, hw⟩ := allFit_ints .u64 8 cs.toList hfit
  exact ⟨zs, by rw [iv, ← hz], hl, hw⟩
theorem info4 {zs : List Int} (h : zs.length = 4) : (Try.prog.info? 23).map (·.size) = some (iv .i64 zs).size := by rw [iv_size, h]; exact size4
theorem infoL {zs : List Int} (h : zs.length = 8) : (Try.prog.info? 28).map (·.size) = some (iv .u64 zs).size := by rw [iv_size, h]; exact size8

end Go.Proofs.Ytmmgacpipcgkdab
