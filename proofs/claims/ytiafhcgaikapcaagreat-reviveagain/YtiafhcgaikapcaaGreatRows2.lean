
/-
  Rows of integers in memory: blocks of a call's own, read and written cell by cell or whole. Over any program.
-/
import Derived.WalkKit
import Derived.ProofKit
import Derived.OpenShut
import Derived.Lib.SmallJoins
import Derived.Deep.RegionHeld3
import Derived.Deep.MidRow
namespace Go.Proofs.YtiafhcgaikapcaaGreat
open Go.ChangeShapes Go.WideShapes Go.ChangeAt Go.RowKit Go.Joins

def iv (k : IntKind) (zs : List Int) : Array Value := (zs.map (fun z => Value.int k z)).toArray
theorem iv_size (k : IntKind) (zs : List Int) : (iv k zs).size = zs.length := by simp [iv]
theorem iv_get (k : IntKind) (zs : List Int) (i : Nat) (h : i < zs.length) : (iv k zs)[i]? = some (.int k (zs.getD i 0)) := by
  simp [iv, h]
theorem iv_set (k : IntKind) (zs : List Int) (i : Nat) (z : Int) : (iv k zs).setIfInBounds i (.int k z) = iv k (zs.set i z) := by
  simp [iv, List.map_set]
theorem iv_one (k : IntKind) (zs : List Int) : (iv k zs).all (·.oneCell') = true := by
  simp [iv, Value.oneCell']

theorem hide {p : Prop} (h : p) : Hid p := h
theorem unhide {p : Prop} (h : Hid p) : p := h

theorem heap_new (w : World) (o : Obj) : (w.alloc o).heap[w.heap.size]? = some o := by
  show (w.heap.push o)[w.heap.size]? = _
  simp
theorem heap3 (w : World) (A B C : Obj) : (((w.alloc A).alloc B).alloc C).heap[w.heap.size]? = some A ∧ (((w.alloc A).alloc B).alloc C).heap[w.heap.size + 1]? = some B ∧ (((w.alloc A).alloc B).alloc C).heap[w.heap.size + 1 + 1]? = some C := by
  refine ⟨?_, ?_, ?_⟩
  · rw [Below.heap_alloc _ _ _ (by simp; omega), Below.heap_alloc _ _ _ (by simp), heap_new]
  · rw [Below.heap_alloc _ _ _ (by simp)]
    have := heap_new (w.alloc A) B
    simpa using this
  · have := heap_new ((w.alloc A).alloc B) C
    simpa using this

theorem below_row {B g : Nat} {w0 w : World} (hb : Below B w0 w) (hBg : B ≤ g) (cs : Array Value) : Below B w0 (w.setRow g cs) :=
  hb.trans ⟨rfl, rfl, rfl, by simp, fun k hk => setRow_other _ _ _ _ (by omega)⟩

theorem wpList_build0 {P : Program} {ops : Array Oper} {rest : List Oper} {o : Oper} {a : Act} {w : World} {Q : Exit → Act → World → Prop} (hg : o.guard = none) (t : TypeId) (ho : o.op = .build t #[]) (cs : Array Value) (hb : P.built t [] = some cs)
    (h : wpList P ops Q rest (a.put o.dst (.agg cs)) w) : wpList P ops Q (o :: rest) a w :=
  wpList_build hg t #[] ho (by simp [hb]) (by simpa [hb] using h)

theorem setRow_alloc (W : World) (C D : Array Value) (t : TypeId) : (W.alloc (.cells C t)).setRow W.heap.size D = W.alloc (.cells D t) := by
  have hh : ((W.alloc (.cells C t)).setRow W.heap.size D).heap = (W.alloc (.cells D t)).heap := by
    apply Array.ext_getElem?
    intro i
    by_cases h : i = W.heap.size
    · subst h
      rw [setRow_heap _ _ _ _ _ _ (heap_new W _), heap_new]
    · rw [setRow_other _ _ _ _ h]
      by_cases h2 : i < W.heap.size
      · rw [Below.heap_alloc _ _ _ h2, Below.heap_alloc _ _ _ h2]
      · rw [Array.getElem?_eq_none (by simp; omega), Array.getElem?_eq_none (by simp; omega)]
  show ({ W.alloc (Obj.cells C t) with heap := ((W.alloc (.cells C t)).setRow W.heap.size D).heap } : World) = _
  rw [hh]
  rfl

/-- A whole row stored into a block that was just laid: the block bears the row. -/
theorem run_store_new {P : Program} (W : World) (g : Nat) (hg : g = W.heap.size) (C D : Array Value) (t : TypeId) (hs : C.size = D.size) (h1 : D.all (·.oneCell') = true) :
    Sem.run P (storeCells ⟨g, 0, none⟩ D.toList) (W.alloc (.cells C t)) = .ok () (W.alloc (.cells D t)) := by
  subst hg
  have h := run_storeCells_from (P := P) W.heap.size t D.toList 0 C (W.alloc (.cells C t)) (heap_new W _) (by simp; omega) (fun v hv => (Array.all_eq_true_iff_forall_mem.1 h1) v (by simpa using hv))
  rw [h, List.take_zero, List.nil_append, Array.toArray_toList, setRow_alloc]

/-- In a region that draws its order: an operation that yields its value in every world that meets S is taken first; its slot named. -/
theorem take_at {P : Program} {md : Region.Mode} {ops : Array Oper} {Q : Exit → Act → World → Prop} {S : World → Prop} (i d : Nat) {oi : Oper} {v : Value} {fuel : Nat} {listed : Array Bool} {a : Act} {w : World} (hi : ops[i]? = some oi) (hd : oi.dst = some d)
    (hs : Region.noSelect ops = true) (hf : Region.free md ops listed i = true) (hr : (Region.ready md ops listed).contains i = true) (hy : YieldsIf P ops S oi v a) (hS : S w)
    (h : wpAnyH P md ops (NoPanic Q) S fuel (listed.setIfInBounds i true) (a.put (some d) v) w) : wpAnyH P md ops (NoPanic Q) S (fuel + 1) listed a w :=
  wpAnyH_take hi hs hf hr (fun _ _ _ h => h) hy hS (by rw [hd]; exact h)

/-- A whole row loaded, by an operation behind a guard that says yes. -/
theorem wpList_load_row_g {P : Program} {ops : Array Oper} {rest : List Oper} {o : Oper} {a : Act} {w : World} {Q : Exit → Act → World → Prop} (hw : Region.wanted o (yielded ops a.tmps) = true) (ty : TypeId) (x : Operand) (ho : o.op = .load ty x)
    (g : Nat) (hx : a.eval x = .pointer (some ⟨g, 0, none⟩)) (t : TypeId) (cs : Array Value) (fr : Nat × Nat) (d : TypeDesc) (hg : w.heap[g]? = some (.cells cs t fr))
    (hu : P.underlying ty = some d) (hd : (match d with | .struct _ | .array _ _ => true | _ => false) = true) (hi : (P.info? ty).map (·.size) = some cs.size)
    (h : wpList P ops Q rest (a.put o.dst (.agg cs)) w) : wpList P ops Q (o :: rest) a w :=
  wpList_step fun K hK => by rw [if_pos hw]; exact wp_load_row ty x ho g hx t cs fr d hg hu hd hi (hK _ _ h)

theorem range_below {B b o : Nat} {w w1 : World} {cs : List Value} (hb : Below B w w1) (h : b < B) (hr : w.rangeAt b o cs) : w1.rangeAt b o cs := fun j v hv => by
  rw [hb.cell (p := ⟨b, o + j, none⟩) h]; exact hr j v hv

end Go.Proofs.YtiafhcgaikapcaaGreat
