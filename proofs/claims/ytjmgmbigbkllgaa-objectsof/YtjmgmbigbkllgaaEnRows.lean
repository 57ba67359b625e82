
/-
  Rows of entries in memory and by value: an entry read and written, rows compared, an entry of a row by value.
-/
import Derived.Test.YtjmgmbigbkllgaaEnRow
import Derived.Test.YtjmgmbigbkllgaaECalls
namespace Go.Proofs.Ytjmgmbigbkllgaa
open Go.ChangeShapes Go.WideShapes Go.ChangeAt Go.RowKit Go.Joins
set_option maxRecDepth 10000
set_option linter.unusedVariables false
set_option linter.unusedSimpArgs false

theorem ev_list (c : En) : (ev c).toList = [.int .i64 c.k, .int .i64 c.v, .int .i64 c.l] := rfl
theorem iv_en (zs : List Int) (i j : Nat) (h : 3 * i + 2 < zs.length) : (ev (enAt zs i)).toList[j]? = if j < 3 then (iv .i64 zs)[i * 3 + j]? else none := by
  rw [ev_list]
  match j with
  | 0 => simp [iv, enAt, List.getElem?_eq_getElem (show i * 3 < zs.length by omega), List.getElem?_eq_getElem (show 3 * i < zs.length by omega), Nat.mul_comm]
  | 1 => simp [iv, enAt, List.getElem?_eq_getElem (show i * 3 + 1 < zs.length by omega), List.getElem?_eq_getElem (show 3 * i + 1 < zs.length by omega), Nat.mul_comm]
  | 2 => simp [iv, enAt, List.getElem?_eq_getElem (show i * 3 + 2 < zs.length by omega), List.getElem?_eq_getElem (show 3 * i + 2 < zs.length by omega), Nat.mul_comm]
  | j + 3 => rw [if_neg (by omega)]; simp
theorem iv_extract (zs : List Int) (i : Nat) (h : 3 * i + 2 < zs.length) : (iv .i64 zs).extract (i * 3) (i * 3 + 3) = ev (enAt zs i) := by
  apply Array.ext_getElem?
  intro j
  have := iv_en zs i j h
  rw [Array.getElem?_toList] at this
  rw [this, Array.getElem?_extract, iv_size]
  by_cases hj : j < 3
  · rw [if_pos hj, if_pos (by omega)]
  · rw [if_neg hj, if_neg (by omega)]
theorem range_en {w : World} {b : Nat} {T : TypeId} {fr : Nat × Nat} (zs : List Int) (h : w.heap[b]? = some (.cells (iv .i64 zs) T fr)) (i : Nat) (hi : 3 * i + 2 < zs.length) : w.rangeAt b (i * 3) (ev (enAt zs i)).toList := fun j v hv => by
  rw [iv_en zs i j hi] at hv
  rw [cell_of_block h]
  by_cases hj : j < 3
  · rwa [if_pos hj] at hv
  · rw [if_neg hj] at hv; cases hv
theorem there_en {w : World} {b : Nat} {T : TypeId} (zs : List Int) (h : w.heap[b]? = some (.cells (iv .i64 zs) T (0, 0))) (i : Nat) (hi : 3 * i + 2 < zs.length) : w.there b (i * 3) 3 := fun j hj => by
  refine ⟨?_, unfrozen_of_block h _⟩
  rw [cell_of_block h, iv_get _ _ _ (by omega)]; rfl
theorem block_put3 {w : World} {b : Nat} {T : TypeId} {fr : Nat × Nat} (zs : List Int) (h : w.heap[b]? = some (.cells (iv .i64 zs) T fr)) (i : Nat) (c : En) : (w.setCells b (i * 3) (ev c).toList).heap[b]? = some (.cells (iv .i64 (put3 zs i c)) T fr) := by
  rw [ev_list]
  simp only [World.setCells]
  rw [block_setCell (block_setCell (block_setCell h _) _) _, iv_set, iv_set, iv_set, Nat.mul_comm]
  rfl
theorem heap_put3 {w : World} {b g : Nat} (hg : g ≠ b) (o : Nat) (c : En) : (w.setCells b o (ev c).toList).heap[g]? = w.heap[g]? := by
  rw [ev_list]
  simp only [World.setCells]
  rw [heap_setCell_other _ _ _ _ (by simpa using hg), heap_setCell_other _ _ _ _ (by simpa using hg), heap_setCell_other _ _ _ _ (by simpa using hg)]
theorem below_put3 {W w : World} {B b : Nat} (hb : Below B W w) (h : B ≤ b) (o : Nat) (c : En) : Below B W (w.setCells b o (ev c).toList) := by
  rw [ev_list]
  simp only [World.setCells]
  exact ((hb.setCell (p := ⟨b, _, none⟩) h _).setCell (p := ⟨b, _, none⟩) h _).setCell (p := ⟨b, _, none⟩) h _

/-- An entry loaded, behind a guard that says yes (or none). -/
theorem wpList_load_en {ops : Array Oper} {rest : List Oper} {o : Oper} {a : Act} {w : World} {Q : Exit → Act → World → Prop} (hw : Region.wanted o (yielded ops a.tmps) = true) (x : Operand) (ho : o.op = .load 23 x)
    (g off : Nat) (hx : a.eval x = .pointer (some ⟨g, off, none⟩)) (c : En) (hc : w.rangeAt g off (ev c).toList)
    (h : wpList Try.prog ops Q rest (a.put o.dst (.agg (ev c))) w) : wpList Try.prog ops Q (o :: rest) a w :=
  wpList_step fun K hK => by rw [if_pos hw]; exact wp_load_mid 23 x ho g off hx (ev c).toList _ hc Try.underlying23 rfl size3 (hK _ _ h)
theorem wpList_store_en {ops : Array Oper} {rest : List Oper} {o : Oper} {a : Act} {w : World} {Q : Exit → Act → World → Prop} (hgd : o.guard = none) (x y : Operand) (ho : o.op = .store 23 x y)
    (g off : Nat) (c : En) (hx : a.eval x = .pointer (some ⟨g, off, none⟩)) (hy : a.eval y = .agg (ev c)) (ht : w.there g off 3)
    (h : wpList Try.prog ops Q rest (a.put o.dst undef) (w.setCells g off (ev c).toList)) : wpList Try.prog ops Q (o :: rest) a w :=
  wpList_store_mid hgd 23 x y ho g off (ev c) hx hy ht size3 (ev_one c) h

/-! ### by value -/
theorem run_part_en (w : World) (zs : List Int) (i : Nat) (h : 3 * i + 2 < zs.length) : (part 23 (iv .i64 zs) (i * 3)).run Try.prog w = .ok (.agg (ev (enAt zs i))) w := by
  have hagg : (isAgg 23).run Try.prog w = .ok true w := by
    unfold isAgg
    rw [Sem.run_bind, run_underlying Try.underlying23 w]
    simp
  simp only [part, Sem.run_bind, hagg, Result.andThen_ok, if_true, run_sizeOf w 23 3 size3, Sem.run_pure, iv_extract zs i h]
theorem run_equalIn_en (d : Nat) (r t : En) (w : World) : (Op.equalIn (d + 1 + 1) 23 (.agg (ev r)) (.agg (ev t))).run Try.prog w = .ok (decide (r = t)) w := by
  rw [run_equalIn_struct w (d + 1) 23 _ _ (by kernel_rfl) (by kernel_rfl)]
  have hf := en_fields
  generalize (Try.prog.fieldsOf 23).toList = fs at hf
  have hl : fs.length = 3 := by have := congrArg List.length hf; simpa using this
  match fs, hl, hf with
  | [f0, f1, f2], _, hf =>
    simp only [List.map_cons, List.map_nil, List.cons.injEq, Prod.mk.injEq, decide_eq_false_iff_not, and_true] at hf
    obtain ⟨⟨a0, b0, c0⟩, ⟨a1, b1, c1⟩, ⟨a2, b2, c2⟩⟩ := hf
    rw [← en_eq]
    refine run_eqField w d _ _ f0 _ .i64 r.k t.k a0 (by rw [b0]; exact Try.underlying3) (by rw [c0]; rfl) (by rw [c0]; rfl) _ ?_
    refine run_eqField w d _ _ f1 _ .i64 r.v t.v a1 (by rw [b1]; exact Try.underlying3) (by rw [c1]; rfl) (by rw [c1]; rfl) _ ?_
    refine run_eqField w d _ _ f2 _ .i64 r.l t.l a2 (by rw [b2]; exact Try.underlying3) (by rw [c2]; rfl) (by rw [c2]; rfl) _ ?_
    simp [Op.eqFields]
theorem equal_rows (T : TypeId) (n : Nat) (hT : Try.prog.underlying T = some (.array n 23)) (xs ys : List Int) (hx : xs.length = 3 * n) (hy : ys.length = 3 * n) (w : World) :
    (Op.equalIn 10000 T (.agg (iv .i64 xs)) (.agg (iv .i64 ys))).run Try.prog w = .ok (decide (xs = ys)) w := by
  rw [run_equalIn_array w 9999 T 23 n 3 hT size3 (iv .i64 xs) (iv .i64 ys) (fun i => .agg (ev (enAt xs i))) (fun i => .agg (ev (enAt ys i))) (fun i => decide (enAt xs i = enAt ys i))
    (fun i hi => run_part_en w xs i (by omega)) (fun i hi => run_part_en w ys i (by omega)) (fun i hi => run_equalIn_en 9997 _ _ w)]
  congr 1
  rw [Bool.eq_iff_iff, decide_eq_true_iff, List.all_eq_true, row_eq_iff xs ys n hx hy]
  simp
theorem run_index_en (T : TypeId) (n : Nat) (hT : Try.prog.underlying T = some (.array n 23)) (W : World) (zs : List Int) (hl : zs.length = 3 * n) (k : IntKind) (i : Nat) (h : i < n) :
    Sem.run Try.prog (Instr.index T (.agg (iv .i64 zs)) (.int k (i : Int))) W = .ok (.agg (ev (enAt zs i))) W := by
  have h' : (0 : Int) ≤ (i : Int) ∧ (i : Int) < (n : Int) := by omega
  simp only [Instr.index, asIntOf, Sem.run_bind, Sem.run_pure, Result.andThen_ok, run_underlying hT W, if_pos h', run_sizeOf W 23 3 size3, Int.toNat_natCast]
  exact run_part_en W zs i (by omega)
theorem size147 : (Try.prog.info? 59).map (·.size) = some 147 := by kernel_rfl
theorem s147_of (l : List Int) (h : l.length = 147) : (Try.prog.info? 59).map (·.size) = some (iv .i64 l).size := by rw [iv_size, h]; exact size147


end Go.Proofs.Ytjmgmbigbkllgaa
