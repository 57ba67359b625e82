
/-
  super's Line, Read and Best, and the document's: what each call returns for whatever superblock, whatever lines; nothing that was there turns.
-/
import Derived.Test.YtjidekjeibdbgaaCSeal
import Derived.Test.YtjidekjeibdbgaaSMath
import Derived.Test.YtjidekjeibdbgaaSEq
import Derived.Laws.ResultCell
namespace Go.Proofs.Ytjidekjeibdbgaa
open Go.ChangeShapes Go.WideShapes Go.ChangeAt Go.RowKit Go.Joins
set_option maxRecDepth 10000
set_option linter.unusedVariables false
set_option linter.unusedSimpArgs false

theorem results_two {fn : Func} {p u : Tmp} {P : Program} {ty : TypeId} (h : fn.results = #[.cell p ty, .tmp u]) (tmps : Array Value) (w : World) (g : Nat) (t : TypeId) (cs : Array Value) (fr : Nat × Nat) (d : TypeDesc) (v : Value)
    (hp : tmps.getD p undef = .pointer (some ⟨g, 0, none⟩)) (hv : tmps.getD u undef = v) (hg : w.heap[g]? = some (.cells cs t fr))
    (hu : P.underlying ty = some d) (hd : (match d with | .struct _ | .array _ _ => true | _ => false) = true) (hi : (P.info? ty).map (·.size) = some cs.size) :
    (results fn tmps).run P w = .ok (.tuple #[.agg cs, v]) w := by
  rw [results_cell_tmp h, hp, hv]
  simp [asAddr, run_loadVar_row w g t ty cs fr d hg hu hd hi]

theorem heap2 (w : World) (A B : Obj) : ((w.alloc A).alloc B).heap[w.heap.size]? = some A ∧ ((w.alloc A).alloc B).heap[w.heap.size + 1]? = some B := by
  refine ⟨?_, ?_⟩
  · rw [Below.heap_alloc _ _ _ (by simp), heap_new]
  · have := heap_new (w.alloc A) B
    simpa using this

theorem iv_new (k : IntKind) (zs : List Int) (n : Nat) (h : zs.length = n) (T : TypeId) : ∀ (W : World) (C : Array Value), C.size = n → Sem.run Try.prog (storeCells ⟨W.heap.size, 0, none⟩ (iv k zs).toList) (W.alloc (.cells C T)) = .ok () (W.alloc (.cells (iv k zs) T)) :=
  fun W C hC => run_store_new _ _ rfl C _ _ (by rw [hC, iv_size, h]) (iv_one _ _)
theorem eight (g r q c : Int) : ((1 ≤ g ∧ g ≤ 1099511627776) ∧ (0 ≤ r ∧ r < 1024) ∧ (0 ≤ q ∧ q ≤ 1099511627776) ∧ 1 ≤ c ∧ c ≤ 8) ∨ (¬ 1 ≤ g) ∨ (1 ≤ g ∧ ¬ g ≤ 1099511627776) ∨ ((1 ≤ g ∧ g ≤ 1099511627776) ∧ ¬ 0 ≤ r) ∨ ((1 ≤ g ∧ g ≤ 1099511627776) ∧ 0 ≤ r ∧ ¬ r < 1024) ∨
    ((1 ≤ g ∧ g ≤ 1099511627776) ∧ (0 ≤ r ∧ r < 1024) ∧ ¬ 0 ≤ q) ∨ ((1 ≤ g ∧ g ≤ 1099511627776) ∧ (0 ≤ r ∧ r < 1024) ∧ 0 ≤ q ∧ ¬ q ≤ 1099511627776) ∨ ((1 ≤ g ∧ g ≤ 1099511627776) ∧ (0 ≤ r ∧ r < 1024) ∧ (0 ≤ q ∧ q ≤ 1099511627776) ∧ ¬ 1 ≤ c) ∨
    ((1 ≤ g ∧ g ≤ 1099511627776) ∧ (0 ≤ r ∧ r < 1024) ∧ (0 ≤ q ∧ q ≤ 1099511627776) ∧ 1 ≤ c ∧ ¬ c ≤ 8) := by omega


theorem seal_raw (s : List Int) (hm : mayS s = true) (cs : Array Value) (hcs : cs = iv .u64 (rawS s)) (W : World) : Calls Try.prog 34 #[.agg cs] W fun e w' => e = .returned (.agg (iv .u64 (lineS s))) ∧ Below W.heap.size W w' := by
  subst hcs; exact seal_any (rawS s) rfl (rawS_wf s hm) W
theorem zero8 : (#[.int .u64 0, .int .u64 0, .int .u64 0, .int .u64 0, .int .u64 0, .int .u64 0, .int .u64 0, .int .u64 0] : Array Value) = iv .u64 zs8 := rfl
theorem zero4 : (#[.int .i64 0, .int .i64 0, .int .i64 0, .int .i64 0] : Array Value) = iv .i64 zs4 := rfl
theorem build8 : Try.prog.built 26 [] = some (iv .u64 zs8) := by kernel_rfl
/-! ### Read -/
end Go.Proofs.Ytjidekjeibdbgaa
