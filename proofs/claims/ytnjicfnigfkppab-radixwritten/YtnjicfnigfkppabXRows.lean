
/-
  Rows of entries in memory and by value: an entry read and written, rows compared; radix.part: the entries of a leaf. Nothing that was there turns.
-/
import Derived.Test.YtnjicfnigfkppabXRoot
import Derived.Test.YtnjicfnigfkppabECalls
namespace Go.Proofs.Ytnjicfnigfkppab
open Go.ChangeShapes Go.WideShapes Go.ChangeAt Go.RowKit Go.Joins
set_option maxRecDepth 10000
set_option linter.unusedVariables false
set_option linter.unusedSimpArgs false

theorem ev_list (c : En) : (ev c).toList = [.int .i64 c.k, .int .i64 c.v, .int .i64 c.l] := rfl
theorem iv_en (zs : List Int) (i j : Nat) (h : 3 * i + 2 < zs.length) : (ev (enAt zs i)).toList[j]? = if j < 3 then (iv .i64 zs)[i * 3 + j]? else none := by
  rw [ev_list]
  match j with
  | 0 => simp [iv, enAt, List.getElem?_eq_getElem (show i * 3 < zs.length by omega), List.getElem?_eq_getElem (show 3 * i < zs.length by omega), Nat.mul_comm]
  | 1 => simp [iv, enAt, List.getElem?_eq_getElem (show i * 3 + 1 < zs.length by omega), List.getElem?_eq_getElem (show 3 * i + 1 < zs.length by omega), Nat.mul_comm]
  | 2 => simp [iv, enAt, List.getElem?_eq_getElem (show i * 3 + 2 < zs.length by omega), List.getElem?_eq_getElem (show 3 * i + 2 < zs.length by omega), Nat.mul_comm]
  | j + 3 => rw [if_neg (by omega)]; simp
theorem iv_extract (zs : List Int) (i : Nat) (h : 3 * i + 2 < zs.length) : (iv .i64 zs).extract (i * 3) (i * 3 + 3) = ev (enAt zs i) := by
  apply Array.ext_getElem?
  intro j
  have := iv_en zs i j h
  rw [Array.getElem?_toList] at this
  rw [this, Array.getElem?_extract, iv_size]
  by_cases hj : j < 3
  · rw [if_pos hj, if_pos (by omega)]
  · rw [if_neg hj, if_neg (by omega)]
theorem range_en {w : World} {b : Nat} {T : TypeId} {fr : Nat × Nat} (zs : List Int) (h : w.heap[b]? = some (.cells (iv .i64 zs) T fr)) (i : Nat) (hi : 3 * i + 2 < zs.length) : w.rangeAt b (i * 3) (ev (enAt zs i)).toList := fun j v hv => by
  rw [iv_en zs i j hi] at hv
  rw [cell_of_block h]
  by_cases hj : j < 3
  · rwa [if_pos hj] at hv
  · rw [if_neg hj] at hv; cases hv
theorem there_en {w : World} {b : Nat} {T : TypeId} (zs : List Int) (h : w.heap[b]? = some (.cells (iv .i64 zs) T (0, 0))) (i : Nat) (hi : 3 * i + 2 < zs.length) : w.there b (i * 3) 3 := fun j hj => by
  refine ⟨?_, unfrozen_of_block h _⟩
  rw [cell_of_block h, iv_get _ _ _ (by omega)]; rfl
theorem block_put3 {w : World} {b : Nat} {T : TypeId} {fr : Nat × Nat} (zs : List Int) (h : w.heap[b]? = some (.cells (iv .i64 zs) T fr)) (i : Nat) (c : En) : (w.setCells b (i * 3) (ev c).toList).heap[b]? = some (.cells (iv .i64 (put3 zs i c)) T fr) := by
  rw [ev_list]
  simp only [World.setCells]
  rw [block_setCell (block_setCell (block_setCell h _) _) _, iv_set, iv_set, iv_set, Nat.mul_comm]
  rfl
theorem heap_put3 {w : World} {b g : Nat} (hg : g ≠ b) (o : Nat) (c : En) : (w.setCells b o (ev c).toList).heap[g]? = w.heap[g]? := by
  rw [ev_list]
  simp only [World.setCells]
  rw [heap_setCell_other _ _ _ _ (by simpa using hg), heap_setCell_other _ _ _ _ (by simpa using hg), heap_setCell_other _ _ _ _ (by simpa using hg)]
theorem below_put3 {W w : World} {B b : Nat} (hb : Below B W w) (h : B ≤ b) (o : Nat) (c : En) : Below B W (w.setCells b o (ev c).toList) := by
  rw [ev_list]
  simp only [World.setCells]
  exact ((hb.setCell (p := ⟨b, _, none⟩) h _).setCell (p := ⟨b, _, none⟩) h _).setCell (p := ⟨b, _, none⟩) h _

/-- An entry loaded, behind a guard that says yes (or none). -/
theorem wpList_load_en {ops : Array Oper} {rest : List Oper} {o : Oper} {a : Act} {w : World} {Q : Exit → Act → World → Prop} (hw : Region.wanted o (yielded ops a.tmps) = true) (x : Operand) (ho : o.op = .load 25 x)
    (g off : Nat) (hx : a.eval x = .pointer (some ⟨g, off, none⟩)) (c : En) (hc : w.rangeAt g off (ev c).toList)
    (h : wpList Try.prog ops Q rest (a.put o.dst (.agg (ev c))) w) : wpList Try.prog ops Q (o :: rest) a w :=
  wpList_step fun K hK => by rw [if_pos hw]; exact wp_load_mid 25 x ho g off hx (ev c).toList _ hc Try.underlying25 rfl size3 (hK _ _ h)
theorem wpList_store_en {ops : Array Oper} {rest : List Oper} {o : Oper} {a : Act} {w : World} {Q : Exit → Act → World → Prop} (hgd : o.guard = none) (x y : Operand) (ho : o.op = .store 25 x y)
    (g off : Nat) (c : En) (hx : a.eval x = .pointer (some ⟨g, off, none⟩)) (hy : a.eval y = .agg (ev c)) (ht : w.there g off 3)
    (h : wpList Try.prog ops Q rest (a.put o.dst undef) (w.setCells g off (ev c).toList)) : wpList Try.prog ops Q (o :: rest) a w :=
  wpList_store_mid hgd 25 x y ho g off (ev c) hx hy ht size3 (ev_one c) h

/-! ### by value -/
theorem run_part_en (w : World) (zs : List Int) (i : Nat) (h : 3 * i + 2 < zs.length) : (part 25 (iv .i64 zs) (i * 3)).run Try.prog w = .ok (.agg (ev (enAt zs i))) w := by
  have hagg : (isAgg 25).run Try.prog w = .ok true w := by
    unfold isAgg
    rw [Sem.run_bind, run_underlying Try.underlying25 w]
    simp
  simp only [part, Sem.run_bind, hagg, Result.andThen_ok, if_true, run_sizeOf w 25 3 size3, Sem.run_pure, iv_extract zs i h]
theorem run_equalIn_en (d : Nat) (r t : En) (w : World) : (Op.equalIn (d + 1 + 1) 25 (.agg (ev r)) (.agg (ev t))).run Try.prog w = .ok (decide (r = t)) w := by
  rw [run_equalIn_struct w (d + 1) 25 _ _ (by kernel_rfl) (by kernel_rfl)]
  have hf := en_fields
  generalize (Try.prog.fieldsOf 25).toList = fs at hf
  have hl : fs.length = 3 := by have := congrArg List.length hf; simpa using this
  match fs, hl, hf with
  | [f0, f1, f2], _, hf =>
    simp only [List.map_cons, List.map_nil, List.cons.injEq, Prod.mk.injEq, decide_eq_false_iff_not, and_true] at hf
    obtain ⟨⟨a0, b0, c0⟩, ⟨a1, b1, c1⟩, ⟨a2, b2, c2⟩⟩ := hf
    rw [← en_eq]
    refine run_eqField w d _ _ f0 _ .i64 r.k t.k a0 (by rw [b0]; exact Try.underlying3) (by rw [c0]; rfl) (by rw [c0]; rfl) _ ?_
    refine run_eqField w d _ _ f1 _ .i64 r.v t.v a1 (by rw [b1]; exact Try.underlying3) (by rw [c1]; rfl) (by rw [c1]; rfl) _ ?_
    refine run_eqField w d _ _ f2 _ .i64 r.l t.l a2 (by rw [b2]; exact Try.underlying3) (by rw [c2]; rfl) (by rw [c2]; rfl) _ ?_
    simp [Op.eqFields]
theorem equal_rows (T : TypeId) (n : Nat) (hT : Try.prog.underlying T = some (.array n 25)) (xs ys : List Int) (hx : xs.length = 3 * n) (hy : ys.length = 3 * n) (w : World) :
    (Op.equalIn 10000 T (.agg (iv .i64 xs)) (.agg (iv .i64 ys))).run Try.prog w = .ok (decide (xs = ys)) w := by
  rw [run_equalIn_array w 9999 T 25 n 3 hT size3 (iv .i64 xs) (iv .i64 ys) (fun i => .agg (ev (enAt xs i))) (fun i => .agg (ev (enAt ys i))) (fun i => decide (enAt xs i = enAt ys i))
    (fun i hi => run_part_en w xs i (by omega)) (fun i hi => run_part_en w ys i (by omega)) (fun i hi => run_equalIn_en 9997 _ _ w)]
  congr 1
  rw [Bool.eq_iff_iff, decide_eq_true_iff, List.all_eq_true, row_eq_iff xs ys n hx hy]
  simp
theorem run_index_en (T : TypeId) (n : Nat) (hT : Try.prog.underlying T = some (.array n 25)) (W : World) (zs : List Int) (hl : zs.length = 3 * n) (k : IntKind) (i : Nat) (h : i < n) :
    Sem.run Try.prog (Instr.index T (.agg (iv .i64 zs)) (.int k (i : Int))) W = .ok (.agg (ev (enAt zs i))) W := by
  have h' : (0 : Int) ≤ (i : Int) ∧ (i : Int) < (n : Int) := by omega
  simp only [Instr.index, asIntOf, Sem.run_bind, Sem.run_pure, Result.andThen_ok, run_underlying hT W, if_pos h', run_sizeOf W 25 3 size3, Int.toNat_natCast]
  exact run_part_en W zs i (by omega)
theorem build21 : Try.prog.built 43 [] = some (iv .i64 (zrow 7)) := by
  rw [zrow_zero]; kernel_rfl
theorem size21 : (Try.prog.info? 43).map (·.size) = some 21 := by kernel_rfl
theorem s21_of (l : List Int) (h : l.length = 21) : (Try.prog.info? 43).map (·.size) = some (iv .i64 l).size := by rw [iv_size, h]; exact size21
theorem size147 : (Try.prog.info? 27).map (·.size) = some 147 := by kernel_rfl
theorem s147_of (l : List Int) (h : l.length = 147) : (Try.prog.info? 27).map (·.size) = some (iv .i64 l).size := by rw [iv_size, h]; exact size147

/-! ### part -/
set_option maxHeartbeats 4000000 in
theorem part_anyx (t : List Int) (hl : t.length = 147) (k : Nat) (hk : k < 7) (w : World) :
    Calls Try.prog 13 #[.agg (iv .i64 t), .int .i64 (k : Int)] w fun e w' => e = .returned (.agg (iv .i64 (partT t k))) ∧ Below w.heap.size w w' := by
  have G0 := hide (fun A B C : Obj => heap3 w A B C)
  have GB := hide (fun A B C : Obj => below_alloc3 w A B C)
  have z21 : (#[.int .i64 0, .int .i64 0, .int .i64 0, .int .i64 0, .int .i64 0, .int .i64 0, .int .i64 0, .int .i64 0, .int .i64 0, .int .i64 0, .int .i64 0, .int .i64 0, .int .i64 0, .int .i64 0, .int .i64 0, .int .i64 0, .int .i64 0, .int .i64 0, .int .i64 0, .int .i64 0, .int .i64 0] : Array Value) = iv .i64 (zrow 7) := by rw [zrow_zero]; rfl
  go_enter Try.func13, Try.ntmps13
  go_wp2_with fail
  go_loopw [7] (fun c wr => ∃ j : Nat, j ≤ 7 ∧ c = .int .i64 j ∧ Below w.heap.size w wr ∧
      wr.heap[w.heap.size]? = some (.cells (iv .i64 t) 27 (0, 0)) ∧ wr.heap[w.heap.size + 1]? = some (.cells (iv .i64 (zrow 7)) 43 (0, 0)) ∧
      wr.heap[w.heap.size + 1 + 1]? = some (.cells (iv .i64 (rowE 7 (upTo (fun i => enAt t (7 * k + i)) j))) 43 (0, 0)))
     (fun c _ => 7 - (intOf c).toNat)
  case atStart =>
    refine ⟨0, by omega, rfl, unhide GB _ _ _, (unhide G0 _ _ _).1, ?_, ?_⟩
    · rw [← z21]; exact (unhide G0 _ _ _).2.1
    · rw [upTo_zero, ← z21]; exact (unhide G0 _ _ _).2.2
  case round =>
    clear G0 GB z21
    obtain ⟨j, hj, rfl, hb, g0, g1, g2⟩ := hrel
    have G0 := hide g0
    have G1 := hide g1
    have G2 := hide g2
    have HB := hide hb
    clear g0 g1 g2 hb
    by_cases hlt : j < 7
    · have R0 := hide (range_en t (unhide G0) (7 * k + j) (by omega))
      have T2 := hide (there_en _ (unhide G2) j (by rw [rowE_len]; omega))
      have Hset : Hid (put3 (rowE 7 (upTo (fun i => enAt t (7 * k + i)) j)) j (enAt t (7 * k + j)) = rowE 7 (upTo (fun i => enAt t (7 * k + i)) (j + 1))) := put3_upTo 7 _ j hlt
      go_wp2_with (first | (with_reducible refine wpList_load_en (by with_unfolding_all rfl) _ (by with_unfolding_all rfl) w.heap.size ((7 * k + j) * 3) (by with_unfolding_all rfl) _ (unhide R0) ?_) | (with_reducible refine wpList_store_en (by with_unfolding_all rfl) _ _ (by with_unfolding_all rfl) (w.heap.size + 1 + 1) (j * 3) (enAt t (7 * k + j)) (by with_unfolding_all rfl) (by with_unfolding_all rfl) (unhide T2) ?_))
      go_roundw
      case rel =>
        refine ⟨j + 1, by omega, by go_num, below_put3 (unhide HB) (by omega) _ _, ?_, ?_, ?_⟩
        · rw [heap_put3 (by omega)]; exact unhide G0
        · rw [heap_put3 (by omega)]; exact unhide G1
        · rw [block_put3 _ (unhide G2), unhide Hset]
      case measure => simp [intOf]; omega
    · obtain rfl : j = 7 := by omega
      have s21 := s21_of (partT t k) (partT_len _ _)
      rw [upTo_all] at G2
      have G3 : Hid (wr.heap[w.heap.size + 1 + 1]? = some (.cells (iv .i64 (partT t k)) 43 (0, 0))) := unhide G2
      have e21 : (iv .i64 (zrow 7)).size = (iv .i64 (partT t k)).size := by rw [iv_size, iv_size, zrow_len, partT_len]
      clear G2
      go_wp2_with (first | (with_reducible refine wpList_load_row (by with_unfolding_all rfl) 43 _ (by with_unfolding_all rfl) (w.heap.size + 1 + 1) (by with_unfolding_all rfl) _ _ _ _ (unhide G3) Try.underlying43 (by with_unfolding_all rfl) s21 ?_) | (with_reducible refine wpList_store_row (by with_unfolding_all rfl) 43 _ _ (by with_unfolding_all rfl) (w.heap.size + 1) (iv .i64 (partT t k)) (by with_unfolding_all rfl) (by with_unfolding_all rfl) _ _ (unhide G1) s21 e21 (iv_one _ _) ?_))
      exact bodyPost_ret (v := .agg (iv .i64 (partT t k))) (results_cell_row Try.results13 _ _ (w.heap.size + 1) _ (iv .i64 (partT t k)) (0, 0) _ rfl (setRow_heap _ _ _ _ _ _ (unhide G1)) Try.underlying43 rfl s21) rfl ⟨rfl, below_row (unhide HB) (by omega) _⟩

end Go.Proofs.Ytnjicfnigfkppab
