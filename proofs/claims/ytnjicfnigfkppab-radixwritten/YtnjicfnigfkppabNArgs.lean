
/-
  What the statements' arguments are: rows of integers, rows of calls (steadfastlaw03.Op, each with a row of ints), rows of lines.
-/
import Derived.Test.YtnjicfnigfkppabNShown
import Derived.Deep.Slices
namespace Go.Proofs.Ytnjicfnigfkppab
open Go.ChangeShapes Go.WideShapes Go.ChangeAt Go.RowKit Go.Joins Go.Deep
set_option maxRecDepth 10000
set_option linter.unusedVariables false

/-- A row of integers where a slice leads. -/
def RowAt (W : World) (k : IntKind) (a : Option Addr) (zs : List Int) : Prop := zs = [] ∨ ∃ b off, a = some ⟨b, off, none⟩ ∧ ∀ i, i < zs.length → W.cell? ⟨b, off + i, none⟩ = some (.int k (zs.getD i 0))
def IsRow (W : World) (k : IntKind) (a : Option Addr) (zs : List Int) (n cap : Nat) : Prop := zs.length = n ∧ RowAt W k a zs ∧ (∀ z ∈ zs, (Lit.int k z).wf = true) ∧ n ≤ cap ∧ cap ≤ 9223372036854775807

theorem row_of_trod {H : Type} {enc : TypeId × Value → H} {P : Program} {t e : TypeId} {k : IntKind} (ht : P.underlying t = some (.slice e)) (he : P.underlying e = some (.int k)) (hc : P.cellsOf e = 1)
    {W : World} {fuel : Nat} {v : Value} {x : DataW H × List MemPlace} (hf : DataW.trod enc P W 0 (fun _ => true) true fuel t [v] = some x) :
    ∃ (a : Option Addr) (zs : List Int) (n cap : Nat), v = .slice a n cap ∧ IsRow W k a zs n cap := by
  rcases open_ints ht he hc hf with ⟨hcs, _⟩ | ⟨x, l, c, zs, hcs, _, hl, hm, hz, _, hcell, hwz⟩
  · simp at hcs
    subst hcs
    exact ⟨none, [], 0, 0, rfl, rfl, Or.inl rfl, by simp, Nat.le_refl _, by decide⟩
  · simp at hcs
    subst hcs
    have hz' : zs.length = c := by simpa using hz
    refine ⟨some x, zs.take l, l, c, rfl, by rw [List.length_take]; omega, ?_, fun z hz => hwz z (List.mem_of_mem_take hz), hl, by unfold maxLen at hm; exact hm⟩
    by_cases h0 : l = 0
    · left; rw [h0]; rfl
    · right
      obtain ⟨b, off, spot⟩ := x
      have hspot : spot = none := by simpa [Addr.add] using World.cell?_spot (hcell 0 (by omega))
      subst hspot
      refine ⟨b, off, rfl, fun i hi => ?_⟩
      have hi' : i < l := by rw [List.length_take] at hi; omega
      have := hcell i (by omega)
      rw [Addr.add_mid] at this
      rw [this, List.getD_eq_getElem?_getD, List.getD_eq_getElem?_getD, List.getElem?_take, if_pos hi']

theorem cells_slice (a : Option Addr) (n cap : Nat) : (Value.slice a n cap).cells.toList = [.slice a n cap] := rfl


theorem IsRow.keep {W : World} {a : Option Addr} {zs : List Int} {n cap : Nat} (h : IsRow W .i64 a zs n cap) : IntsAt W a zs ∧ (∀ z ∈ zs, In64 z) ∧ zs.length ≤ 9223372036854775807 :=
  ⟨h.2.1, fun z hz => in64_wf (h.2.2.1 z hz), by have := h.1; have := h.2.2.2; omega⟩

/-! ### Calls -/
structure OpV where
  kind : Int
  core : Int
  line : Int
  word : Int
  v : Int
  ka : Option Addr
  keep : List Int
  kcap : Nat
instance : Inhabited OpV := ⟨⟨0, 0, 0, 0, 0, none, [], 0⟩⟩
def OpV.cells (p : OpV) : List Value := [.int .i64 p.kind, .int .i64 p.core, .int .i64 p.line, .int .i64 p.word, .int .u64 p.v, .slice p.ka p.keep.length p.kcap]
def OpAt (W : World) (b o : Nat) (p : OpV) : Prop := W.rangeAt b o p.cells ∧ In64 p.kind ∧ In64 p.core ∧ In64 p.line ∧ In64 p.word ∧ InU p.v ∧ IntsAt W p.ka p.keep ∧ (∀ z ∈ p.keep, In64 z) ∧ p.keep.length ≤ 9223372036854775807
def OpsAt (W : World) (a : Option Addr) (n cap : Nat) (o : Nat → OpV) : Prop := n ≤ 9223372036854775807 ∧ (n = 0 ∨ ∃ b off, a = some ⟨b, off, none⟩ ∧ ∀ i, i < n → OpAt W b (off + i * 6) (o i))


end Go.Proofs.Ytnjicfnigfkppab
