/-
  What the statements' arguments are: rows of calls (steadfastlaw04.Op: two numbers each); a row of bools that a call makes.
-/
import Derived.Test.YtkoaajcfnnpiaaaFHas
import Derived.Deep.Slices
import Derived.OwnWalk
namespace Go.Proofs.Ytkoaajcfnnpiaaa
open Go.ChangeShapes Go.WideShapes Go.ChangeAt Go.RowKit Go.Joins Go.Deep
set_option maxRecDepth 10000
set_option linter.unusedVariables false

theorem FKeeps.cellOf {F : Nat → Prop} {w w' : World} (h : Keeps F w w') {b o : Nat} {v : Value} (hc : w.cell? ⟨b, o, none⟩ = some v) (hF : ¬ F b) : w'.cell? ⟨b, o, none⟩ = some v := by
  have hb : b < w.heap.size := World.block_lt_of_cell? w _ hc
  rw [World.cell?_of_block (w := w) (h.block b hb hF)]; exact hc

structure FOp where
  kind : Int
  line : Int
instance : Inhabited FOp := ⟨⟨0, 0⟩⟩
def FOp.cells (p : FOp) : List Value := [.int .i64 p.kind, .int .i64 p.line]
def FOpAt (W : World) (b o : Nat) (p : FOp) : Prop := W.cell? ⟨b, o, none⟩ = some (.int .i64 p.kind) ∧ W.cell? ⟨b, o + 1, none⟩ = some (.int .i64 p.line) ∧ FIn64 p.kind ∧ FIn64 p.line
def FOpsAt (W : World) (a : Option Addr) (n cap : Nat) (o : Nat → FOp) : Prop := n ≤ 9223372036854775807 ∧ (n = 0 ∨ ∃ b off, a = some ⟨b, off, none⟩ ∧ ∀ i, i < n → FOpAt W b (off + i * 2) (o i))

theorem fop_of_trod {H : Type} {enc : TypeId × Value → H} {W : World} {fuel : Nat} {cs : List Value} {x : DataW H × List MemPlace} (h : DataW.trod enc Try.prog W 0 (fun _ => true) true fuel 60 cs = some x) (hl : cs.length = 2) :
    ∃ p : FOp, cs = p.cells ∧ FIn64 p.kind ∧ FIn64 p.line := by
  obtain ⟨xs, k, hk, hxy, hcl, hxl, hf⟩ := DataW.trod_struct Try.underlying60 h
  match cs, hl with
  | [c0, c1], _ =>
    have hlen : xs.length = 2 := by simpa using hxl
    match xs, hlen with
    | [y0, y1], _ =>
      have k1 : Try.prog.cellsOf 3 = 1 := by kernel_rfl
      have g0 := hf 0 _ rfl
      have g1 := hf 1 _ rfl
      simp [k1] at g0 g1
      obtain ⟨z0, e0, _, w0⟩ := DataW.trod_int Try.underlying3 g0
      obtain ⟨z1, e1, _, w1⟩ := DataW.trod_int Try.underlying3 g1
      simp at e0 e1
      subst e0 e1
      exact ⟨⟨z0, z1⟩, rfl, fin64_wf w0, fin64_wf w1⟩

theorem open_fops {H : Type} {enc : TypeId × Value → H} {W : World} {r : Reach} {b0 : Nat} {v : Value} {d : DataW H} {p : List MemPlace} (hv : Value.okWide Try.prog W r b0 52 v)
    (h : DataW.Trod enc Try.prog W 0 (fun _ => true) true 52 v d p) : ∃ (a : Option Addr) (n cap : Nat) (o : Nat → FOp), v = .slice a n cap ∧ FOpsAt W a n cap o := by
  obtain ⟨a, len, cap, rfl⟩ := okWide_slice Try.underlying52 hv
  obtain ⟨fuel, hf⟩ := h
  have k2 : Try.prog.cellsOf 60 = 2 := by kernel_rfl
  rcases open_slice Try.underlying52 hf with ⟨hcs, _⟩ | ⟨x, l, c, m, n, D, Pl, hcs, hb, hl, hm, hmm, _, hx⟩
  · simp [Value.cells] at hcs
    obtain ⟨rfl, rfl, rfl⟩ := hcs
    exact ⟨none, 0, 0, default, rfl, by decide, Or.inl rfl⟩
  · simp [Value.cells] at hcs
    obtain ⟨rfl, rfl, rfl⟩ := hcs
    rw [k2] at hx
    have hlm : len ≤ m := by rw [hmm]; simp; exact hl
    unfold maxLen at hm
    obtain ⟨o, ho⟩ := choose_lt (α := FOp) (n := len) (p := fun i q => (∀ j, j < 2 → W.cell? (x.add (i * 2 + j)) = q.cells[j]?) ∧ FIn64 q.kind ∧ FIn64 q.line) (fun i hi => by
      obtain ⟨cs', h1, h2⟩ := hx i (by omega)
      obtain ⟨_, hlen, hcell⟩ := World.cells?_some h1
      obtain ⟨q, rfl, hq⟩ := fop_of_trod h2 hlen
      refine ⟨q, fun j hj => ?_, hq⟩
      have := hcell j hj
      rw [add_add] at this
      exact this)
    refine ⟨some x, len, cap, o, rfl, by omega, ?_⟩
    by_cases h0 : len = 0
    · exact Or.inl h0
    · right
      obtain ⟨b, off, spot⟩ := x
      have hc0 := (ho 0 (by omega)).1 0 (by omega)
      have hspot : spot = none := by
        have : W.cell? ((⟨b, off, spot⟩ : Addr).add 0) = some (.int .i64 (o 0).kind) := hc0
        simpa [Addr.add] using World.cell?_spot this
      subst hspot
      refine ⟨b, off, rfl, fun i hi => ⟨?_, ?_, (ho i hi).2⟩⟩
      · have := (ho i hi).1 0 (by omega)
        rw [Addr.add_mid] at this
        exact this
      · have := (ho i hi).1 1 (by omega)
        rw [Addr.add_mid] at this
        exact this

theorem fmade_blk {w : World} {base g n : Nat} {e : TypeId} {z : Value} (h1 : z.cells = #[z]) (h : w.ownsRow base e 1 (.slice (some ⟨g, 0, none⟩) n n) n (madeCells z.cells (n * 1)).toList) :
    Blk w g n e (fun _ => z) := by
  rcases h.2 with ⟨h', _⟩ | ⟨g', cap, cur, h', _, hg, _, _, hcs, htake⟩
  · simp at h'
  · simp only [Value.slice.injEq, Option.some.injEq, Addr.mk.injEq, and_true, true_and] at h'
    obtain ⟨rfl, rfl⟩ := h'
    rw [Nat.mul_one] at htake hcs
    have hcur : cur = tab n (fun _ => z) := by
      rw [List.take_of_length_le (by simp [hcs])] at htake
      have h2 : cur = madeCells z.cells n := by rw [← Array.toArray_toList (xs := cur), htake, Array.toArray_toList]
      rw [h2]
      apply Array.ext_getElem?
      intro i
      by_cases hi : i < n
      · rw [tab_get _ _ _ hi]
        simp only [madeCells, Array.getElem?_map, Array.getElem?_range, hi]
        simp [h1, Nat.mod_one]
      · rw [tab_none _ _ _ (by omega), Array.getElem?_eq_none (by rw [size_madeCells]; omega)]
    refine Blk.of_tab ?_
    rw [← hcur]; exact hg

end Go.Proofs.Ytkoaajcfnnpiaaa
