
/-
  What the statements' arguments are: rows of numbers; rows of calls (steadfastlaw10.Op: three numbers and a word each).
-/
import Derived.Test.YtjmgmbigbkllgaaPkNvm
import Derived.Deep.Slices
namespace Go.Proofs.Ytjmgmbigbkllgaa
open Go.ChangeShapes Go.WideShapes Go.ChangeAt Go.RowKit Go.Joins Go.Deep
set_option maxRecDepth 10000
set_option linter.unusedVariables false

theorem open_u64sO {H : Type} {enc : TypeId × Value → H} {W : World} {r : Reach} {b0 : Nat} {v : Value} {d : DataW H} {p : List MemPlace} (hv : Value.okWide Try.prog W r b0 75 v)
    (h : DataW.Trod enc Try.prog W 0 (fun _ => true) true 75 v d p) : ∃ (a : Option Addr) (zs : List Int) (n cap : Nat), v = .slice a n cap ∧ IsRow W .u64 a zs n cap := by
  obtain ⟨a, len, cap, rfl⟩ := okWide_slice Try.underlying75 hv
  obtain ⟨fuel, hf⟩ := h
  exact row_of_trod Try.underlying75 Try.underlying46 (by kernel_rfl) hf
theorem open_i64sO {H : Type} {enc : TypeId × Value → H} {W : World} {r : Reach} {b0 : Nat} {v : Value} {d : DataW H} {p : List MemPlace} (hv : Value.okWide Try.prog W r b0 72 v)
    (h : DataW.Trod enc Try.prog W 0 (fun _ => true) true 72 v d p) : ∃ (a : Option Addr) (zs : List Int) (n cap : Nat), v = .slice a n cap ∧ IsRow W .i64 a zs n cap := by
  obtain ⟨a, len, cap, rfl⟩ := okWide_slice Try.underlying72 hv
  obtain ⟨fuel, hf⟩ := h
  exact row_of_trod Try.underlying72 Try.underlying3 (by kernel_rfl) hf

/-! ### Calls -/
structure OOp where
  kind : Int
  id : Int
  word : Int
  v : Int
instance : Inhabited OOp := ⟨⟨0, 0, 0, 0⟩⟩
def OOp.cells (p : OOp) : List Value := [.int .i64 p.kind, .int .i64 p.id, .int .i64 p.word, .int .u64 p.v]
def OOp.fits (p : OOp) : Prop := In64 p.kind ∧ In64 p.id ∧ In64 p.word ∧ InU p.v
def OOpAt (W : World) (b o : Nat) (p : OOp) : Prop := W.rangeAt b o p.cells ∧ p.fits
def OOpsAt (W : World) (a : Option Addr) (n cap : Nat) (o : Nat → OOp) : Prop := n ≤ 9223372036854775807 ∧ (n = 0 ∨ ∃ b off, a = some ⟨b, off, none⟩ ∧ ∀ i, i < n → OOpAt W b (off + i * 4) (o i))

theorem oop_of_trod {H : Type} {enc : TypeId × Value → H} {W : World} {fuel : Nat} {cs : List Value} {x : DataW H × List MemPlace} (h : DataW.trod enc Try.prog W 0 (fun _ => true) true fuel 48 cs = some x) (hl : cs.length = 4) :
    ∃ p : OOp, cs = p.cells ∧ p.fits := by
  obtain ⟨xs, k, hk, hxy, hcl, hxl, hf⟩ := DataW.trod_struct Try.underlying48 h
  match cs, hl with
  | [c0, c1, c2, c3], _ =>
    have hlen : xs.length = 4 := by simpa using hxl
    match xs, hlen with
    | [y0, y1, y2, y3], _ =>
      have k1 : Try.prog.cellsOf 3 = 1 := by kernel_rfl
      have k2 : Try.prog.cellsOf 46 = 1 := by kernel_rfl
      have g0 := hf 0 _ rfl
      have g1 := hf 1 _ rfl
      have g2 := hf 2 _ rfl
      have g3 := hf 3 _ rfl
      simp [k1, k2] at g0 g1 g2 g3
      obtain ⟨z0, e0, _, w0⟩ := DataW.trod_int Try.underlying3 g0
      obtain ⟨z1, e1, _, w1⟩ := DataW.trod_int Try.underlying3 g1
      obtain ⟨z2, e2, _, w2⟩ := DataW.trod_int Try.underlying3 g2
      obtain ⟨z3, e3, _, w3⟩ := DataW.trod_int Try.underlying46 g3
      simp at e0 e1 e2 e3
      subst e0 e1 e2 e3
      exact ⟨⟨z0, z1, z2, z3⟩, rfl, in64_wf w0, in64_wf w1, in64_wf w2, inU_wf w3⟩

theorem open_oops {H : Type} {enc : TypeId × Value → H} {W : World} {r : Reach} {b0 : Nat} {v : Value} {d : DataW H} {p : List MemPlace} (hv : Value.okWide Try.prog W r b0 42 v)
    (h : DataW.Trod enc Try.prog W 0 (fun _ => true) true 42 v d p) : ∃ (a : Option Addr) (n cap : Nat) (o : Nat → OOp), v = .slice a n cap ∧ OOpsAt W a n cap o := by
  obtain ⟨a, len, cap, rfl⟩ := okWide_slice Try.underlying42 hv
  obtain ⟨fuel, hf⟩ := h
  have k2 : Try.prog.cellsOf 48 = 4 := by kernel_rfl
  rcases open_slice Try.underlying42 hf with ⟨hcs, _⟩ | ⟨x, l, c, m, n, D, Pl, hcs, hb, hl, hm, hmm, _, hx⟩
  · simp [Value.cells] at hcs
    obtain ⟨rfl, rfl, rfl⟩ := hcs
    exact ⟨none, 0, 0, default, rfl, by decide, Or.inl rfl⟩
  · simp [Value.cells] at hcs
    obtain ⟨rfl, rfl, rfl⟩ := hcs
    rw [k2] at hx
    have hlm : len ≤ m := by rw [hmm]; simp; exact hl
    unfold maxLen at hm
    obtain ⟨o, ho⟩ := choose_lt (α := OOp) (n := len) (p := fun i q => (∀ j, j < 4 → W.cell? (x.add (i * 4 + j)) = q.cells[j]?) ∧ q.fits) (fun i hi => by
      obtain ⟨cs', h1, h2⟩ := hx i (by omega)
      obtain ⟨_, hlen, hcell⟩ := World.cells?_some h1
      obtain ⟨q, rfl, hq⟩ := oop_of_trod h2 hlen
      refine ⟨q, fun j hj => ?_, hq⟩
      have := hcell j hj
      rw [add_add] at this
      exact this)
    refine ⟨some x, len, cap, o, rfl, by omega, ?_⟩
    by_cases h0 : len = 0
    · exact Or.inl h0
    · right
      obtain ⟨b, off, spot⟩ := x
      have hc0 := (ho 0 (by omega)).1 0 (by omega)
      have hspot : spot = none := by
        have : W.cell? ((⟨b, off, spot⟩ : Addr).add 0) = some (.int .i64 (o 0).kind) := hc0
        simpa [Addr.add] using World.cell?_spot this
      subst hspot
      refine ⟨b, off, rfl, fun i hi => ⟨fun j v hv => ?_, (ho i hi).2⟩⟩
      have hj : j < 4 := by
        rcases Nat.lt_or_ge j 4 with h' | h'
        · exact h'
        · rw [List.getElem?_eq_none (by simpa [OOp.cells] using h')] at hv; cases hv
      have := (ho i hi).1 j hj
      rw [Addr.add_mid] at this
      rw [show off + i * 4 + j = off + (i * 4 + j) by omega, this]
      exact hv

end Go.Proofs.Ytjmgmbigbkllgaa
