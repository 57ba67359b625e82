/-
  What the statements' arguments are: rows of integers, rows of calls (steadfastlaw03.Op, each with a row of ints), rows of lines.
-/
import Derived.Test.YtkoaajcfnnpiaaaNShown
import Derived.Deep.Slices
namespace Go.Proofs.Ytkoaajcfnnpiaaa
open Go.ChangeShapes Go.WideShapes Go.ChangeAt Go.RowKit Go.Joins Go.Deep
set_option maxRecDepth 10000
set_option linter.unusedVariables false

/-- A row of integers where a slice leads. -/
def RowAt (W : World) (k : IntKind) (a : Option Addr) (zs : List Int) : Prop := zs = [] ∨ ∃ b off, a = some ⟨b, off, none⟩ ∧ ∀ i, i < zs.length → W.cell? ⟨b, off + i, none⟩ = some (.int k (zs.getD i 0))
def IsRow (W : World) (k : IntKind) (a : Option Addr) (zs : List Int) (n cap : Nat) : Prop := zs.length = n ∧ RowAt W k a zs ∧ (∀ z ∈ zs, (Lit.int k z).wf = true) ∧ n ≤ cap ∧ cap ≤ 9223372036854775807

theorem row_of_trod {H : Type} {enc : TypeId × Value → H} {P : Program} {t e : TypeId} {k : IntKind} (ht : P.underlying t = some (.slice e)) (he : P.underlying e = some (.int k)) (hc : P.cellsOf e = 1)
    {W : World} {fuel : Nat} {v : Value} {x : DataW H × List MemPlace} (hf : DataW.trod enc P W 0 (fun _ => true) true fuel t [v] = some x) :
    ∃ (a : Option Addr) (zs : List Int) (n cap : Nat), v = .slice a n cap ∧ IsRow W k a zs n cap := by
  rcases open_ints ht he hc hf with ⟨hcs, _⟩ | ⟨x, l, c, zs, hcs, _, hl, hm, hz, _, hcell, hwz⟩
  · simp at hcs
    subst hcs
    exact ⟨none, [], 0, 0, rfl, rfl, Or.inl rfl, by simp, Nat.le_refl _, by decide⟩
  · simp at hcs
    subst hcs
    have hz' : zs.length = c := by simpa using hz
    refine ⟨some x, zs.take l, l, c, rfl, by rw [List.length_take]; omega, ?_, fun z hz => hwz z (List.mem_of_mem_take hz), hl, by unfold maxLen at hm; exact hm⟩
    by_cases h0 : l = 0
    · left; rw [h0]; rfl
    · right
      obtain ⟨b, off, spot⟩ := x
      have hspot : spot = none := by simpa [Addr.add] using World.cell?_spot (hcell 0 (by omega))
      subst hspot
      refine ⟨b, off, rfl, fun i hi => ?_⟩
      have hi' : i < l := by rw [List.length_take] at hi; omega
      have := hcell i (by omega)
      rw [Addr.add_mid] at this
      rw [this, List.getD_eq_getElem?_getD, List.getD_eq_getElem?_getD, List.getElem?_take, if_pos hi']

theorem cells_slice (a : Option Addr) (n cap : Nat) : (Value.slice a n cap).cells.toList = [.slice a n cap] := rfl

theorem open_u64s {H : Type} {enc : TypeId × Value → H} {W : World} {r : Reach} {b0 : Nat} {v : Value} {d : DataW H} {p : List MemPlace} (t : TypeId) (ht : Try.prog.underlying t = some (.slice 32)) (hv : Value.okWide Try.prog W r b0 t v)
    (h : DataW.Trod enc Try.prog W 0 (fun _ => true) true t v d p) : ∃ (a : Option Addr) (zs : List Int) (n cap : Nat), v = .slice a n cap ∧ IsRow W .u64 a zs n cap := by
  obtain ⟨a, len, cap, rfl⟩ := okWide_slice ht hv
  obtain ⟨fuel, hf⟩ := h
  exact row_of_trod ht Try.underlying32 (by kernel_rfl) hf
theorem open_i64s {H : Type} {enc : TypeId × Value → H} {W : World} {r : Reach} {b0 : Nat} {v : Value} {d : DataW H} {p : List MemPlace} (hv : Value.okWide Try.prog W r b0 33 v)
    (h : DataW.Trod enc Try.prog W 0 (fun _ => true) true 33 v d p) : ∃ (a : Option Addr) (zs : List Int) (n cap : Nat), v = .slice a n cap ∧ IsRow W .i64 a zs n cap := by
  obtain ⟨a, len, cap, rfl⟩ := okWide_slice Try.underlying33 hv
  obtain ⟨fuel, hf⟩ := h
  exact row_of_trod Try.underlying33 Try.underlying3 (by kernel_rfl) hf

theorem IsRow.keep {W : World} {a : Option Addr} {zs : List Int} {n cap : Nat} (h : IsRow W .i64 a zs n cap) : IntsAt W a zs ∧ (∀ z ∈ zs, In64 z) ∧ zs.length ≤ 9223372036854775807 :=
  ⟨h.2.1, fun z hz => in64_wf (h.2.2.1 z hz), by have := h.1; have := h.2.2.2; omega⟩

/-! ### Calls -/
structure OpV where
  kind : Int
  core : Int
  line : Int
  word : Int
  v : Int
  ka : Option Addr
  keep : List Int
  kcap : Nat
instance : Inhabited OpV := ⟨⟨0, 0, 0, 0, 0, none, [], 0⟩⟩
def OpV.cells (p : OpV) : List Value := [.int .i64 p.kind, .int .i64 p.core, .int .i64 p.line, .int .i64 p.word, .int .u64 p.v, .slice p.ka p.keep.length p.kcap]
def OpAt (W : World) (b o : Nat) (p : OpV) : Prop := W.rangeAt b o p.cells ∧ In64 p.kind ∧ In64 p.core ∧ In64 p.line ∧ In64 p.word ∧ InU p.v ∧ IntsAt W p.ka p.keep ∧ (∀ z ∈ p.keep, In64 z) ∧ p.keep.length ≤ 9223372036854775807
def OpsAt (W : World) (a : Option Addr) (n cap : Nat) (o : Nat → OpV) : Prop := n ≤ 9223372036854775807 ∧ (n = 0 ∨ ∃ b off, a = some ⟨b, off, none⟩ ∧ ∀ i, i < n → OpAt W b (off + i * 6) (o i))

theorem op_of_trod {H : Type} {enc : TypeId × Value → H} {W : World} {fuel : Nat} {cs : List Value} {x : DataW H × List MemPlace} (h : DataW.trod enc Try.prog W 0 (fun _ => true) true fuel 35 cs = some x) (hl : cs.length = 6) :
    ∃ p : OpV, cs = p.cells ∧ In64 p.kind ∧ In64 p.core ∧ In64 p.line ∧ In64 p.word ∧ InU p.v ∧ IntsAt W p.ka p.keep ∧ (∀ z ∈ p.keep, In64 z) ∧ p.keep.length ≤ 9223372036854775807 := by
  obtain ⟨xs, k, hk, hxy, hcl, hxl, hf⟩ := DataW.trod_struct Try.underlying35 h
  match cs, hl with
  | [c0, c1, c2, c3, c4, c5], _ =>
    have hlen : xs.length = 6 := by simpa using hxl
    match xs, hlen with
    | [y0, y1, y2, y3, y4, y5], _ =>
      have k1 : Try.prog.cellsOf 3 = 1 := by kernel_rfl
      have k2 : Try.prog.cellsOf 32 = 1 := by kernel_rfl
      have k3 : Try.prog.cellsOf 33 = 1 := by kernel_rfl
      have g0 := hf 0 _ rfl
      have g1 := hf 1 _ rfl
      have g2 := hf 2 _ rfl
      have g3 := hf 3 _ rfl
      have g4 := hf 4 _ rfl
      have g5 := hf 5 _ rfl
      simp [k1, k2, k3] at g0 g1 g2 g3 g4 g5
      obtain ⟨z0, e0, _, w0⟩ := DataW.trod_int Try.underlying3 g0
      obtain ⟨z1, e1, _, w1⟩ := DataW.trod_int Try.underlying3 g1
      obtain ⟨z2, e2, _, w2⟩ := DataW.trod_int Try.underlying3 g2
      obtain ⟨z3, e3, _, w3⟩ := DataW.trod_int Try.underlying3 g3
      obtain ⟨z4, e4, _, w4⟩ := DataW.trod_int Try.underlying32 g4
      obtain ⟨a, zs, n, cap, e5, hr⟩ := row_of_trod Try.underlying33 Try.underlying3 (by kernel_rfl) g5
      simp at e0 e1 e2 e3 e4
      subst e0 e1 e2 e3 e4 e5
      obtain ⟨q1, q2, q3⟩ := hr.keep
      refine ⟨⟨z0, z1, z2, z3, z4, a, zs, cap⟩, ?_, in64_wf w0, in64_wf w1, in64_wf w2, in64_wf w3, inU_wf w4, q1, q2, q3⟩
      simp [OpV.cells, hr.1]

theorem open_ops {H : Type} {enc : TypeId × Value → H} {W : World} {r : Reach} {b0 : Nat} {v : Value} {d : DataW H} {p : List MemPlace} (hv : Value.okWide Try.prog W r b0 22 v)
    (h : DataW.Trod enc Try.prog W 0 (fun _ => true) true 22 v d p) : ∃ (a : Option Addr) (n cap : Nat) (o : Nat → OpV), v = .slice a n cap ∧ OpsAt W a n cap o := by
  obtain ⟨a, len, cap, rfl⟩ := okWide_slice Try.underlying22 hv
  obtain ⟨fuel, hf⟩ := h
  have k6 : Try.prog.cellsOf 35 = 6 := by kernel_rfl
  rcases open_slice Try.underlying22 hf with ⟨hcs, _⟩ | ⟨x, l, c, m, n, D, Pl, hcs, hb, hl, hm, hmm, _, hx⟩
  · simp [Value.cells] at hcs
    obtain ⟨rfl, rfl, rfl⟩ := hcs
    exact ⟨none, 0, 0, default, rfl, by decide, Or.inl rfl⟩
  · simp [Value.cells] at hcs
    obtain ⟨rfl, rfl, rfl⟩ := hcs
    rw [k6] at hx
    have hlm : len ≤ m := by rw [hmm]; simp; exact hl
    unfold maxLen at hm
    obtain ⟨o, ho⟩ := choose_lt (α := OpV) (n := len) (p := fun i q => (∀ j, j < 6 → W.cell? (x.add (i * 6 + j)) = q.cells[j]?) ∧ In64 q.kind ∧ In64 q.core ∧ In64 q.line ∧ In64 q.word ∧ InU q.v ∧ IntsAt W q.ka q.keep ∧ (∀ z ∈ q.keep, In64 z) ∧ q.keep.length ≤ 9223372036854775807) (fun i hi => by
      obtain ⟨cs', h1, h2⟩ := hx i (by omega)
      obtain ⟨_, hlen, hcell⟩ := World.cells?_some h1
      obtain ⟨q, rfl, hq⟩ := op_of_trod h2 hlen
      refine ⟨q, fun j hj => ?_, hq⟩
      have := hcell j hj
      rw [add_add] at this
      exact this)
    refine ⟨some x, len, cap, o, rfl, by omega, ?_⟩
    by_cases h0 : len = 0
    · exact Or.inl h0
    · right
      obtain ⟨b, off, spot⟩ := x
      have hc0 := (ho 0 (by omega)).1 0 (by omega)
      have hspot : spot = none := by
        have : W.cell? ((⟨b, off, spot⟩ : Addr).add 0) = some (.int .i64 (o 0).kind) := hc0
        simpa [Addr.add] using World.cell?_spot this
      subst hspot
      refine ⟨b, off, rfl, fun i hi => ⟨fun j u hj => ?_, (ho i hi).2⟩⟩
      have hj6 : j < 6 := by
        rcases Nat.lt_or_ge j 6 with h | h
        · exact h
        · rw [List.getElem?_eq_none (by simpa [OpV.cells] using h)] at hj; simp at hj
      have := (ho i hi).1 j hj6
      rw [Addr.add_mid, hj] at this
      rw [show off + i * 6 + j = off + (i * 6 + j) by omega]; exact this

end Go.Proofs.Ytkoaajcfnnpiaaa
