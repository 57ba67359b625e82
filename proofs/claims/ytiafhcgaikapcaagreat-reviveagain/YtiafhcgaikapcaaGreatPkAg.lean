import Derived.Test.YtiafhcgaikapcaaGreatPkTel
import Derived.Test.YtiafhcgaikapcaaGreatICalls
import Derived.Test.YtiafhcgaikapcaaGreatPkRa
import Derived.Great.BuildSlice
import Derived.OwnWalk
import Derived.BigQuiet
import Derived.Maps.AppendAt
import Derived.Test.YtiafhcgaikapcaaGreatPkShow
import Derived.Test.YtiafhcgaikapcaaGreatPkIv
import Derived.Test.YtiafhcgaikapcaaGreatFlat
import Derived.Test.YtiafhcgaikapcaaGreatIShown
import Derived.Test.YtiafhcgaikapcaaGreatRows
import Derived.Test.YtiafhcgaikapcaaGreatEqS
import Derived.Deep.CutBlock

/-
  '==' and '!=' on whole objects.
-/
namespace Go.Proofs.YtiafhcgaikapcaaGreat
open Go.ChangeShapes Go.WideShapes Go.ChangeAt Go.RowKit Go.Joins
set_option maxRecDepth 10000
set_option linter.unusedVariables false
set_option linter.unusedSimpArgs false

theorem ob_fields : ((Tryz.prog.fieldsOf 88).toList.map fun f => (decide (f.name = "_"), f.type, f.offset)) = [(false, 3, 0), (false, 3, 1), (false, 83, 2)] := by kernel_rfl
theorem ob_guard : Tryz.prog.eqGuardType Tryz.prog.depth 88 = false := by kernel_rfl
theorem ln_iv (f : Nat → Int) : lnV f = iv .u64 ((List.range 8).map f) := by
  refine Array.ext_getElem? fun i => ?_
  by_cases h : i < 8
  · rw [lnV_get f i h, ← Array.getElem?_toList]
    simp [iv, h]
  · rw [Array.getElem?_eq_none (by rw [lnV_size]; omega), Array.getElem?_eq_none (by rw [iv_size]; simp; omega)]
theorem run_part_ln (w : World) (k v : Int) (f : Nat → Int) : (part 83 (obV k v f) 2).run Tryz.prog w = .ok (.agg (lnV f)) w := by
  have hagg : (isAgg 83).run Tryz.prog w = .ok true w := by
    unfold isAgg
    rw [Sem.run_bind, run_underlying Tryz.underlying83 w]
    simp
  have hs : (sizeOf 83).run Tryz.prog w = .ok 8 w := run_sizeOf w 83 8 (by kernel_rfl)
  have he : (obV k v f).extract 2 (2 + 8) = lnV f := by
    unfold obV
    refine Array.ext_getElem? fun i => ?_
    rw [Array.getElem?_extract]
    by_cases h : i < 8
    · rw [if_pos (by rw [Array.size_append, lnV_size]; simp; omega), Array.getElem?_append_right (by simp)]
      simp
    · rw [if_neg (by rw [Array.size_append, lnV_size]; simp; omega), Array.getElem?_eq_none (by rw [lnV_size]; omega)]
  simp [part, Sem.run_bind, hagg, hs, he]
theorem equal_ln (d : Nat) (f : Nat → Int) (w : World) : (Op.equalIn (d + 2) 83 (.agg (lnV f)) (.agg (lnV f))).run Tryz.prog w = .ok true w := by
  rw [ln_iv]
  have := run_equalIn_ints w d 83 52 .u64 8 Tryz.underlying83 Tryz.underlying52 (by kernel_rfl) ((List.range 8).map f) ((List.range 8).map f) (by simp) (by simp)
  rw [decide_eq_true rfl] at this
  exact this
theorem ob_0 (k v : Int) (f : Nat → Int) : (obV k v f)[0]? = some (.int .i64 k) := by unfold obV; rw [Array.getElem?_append_left (by simp)]; rfl
theorem ob_1 (k v : Int) (f : Nat → Int) : (obV k v f)[1]? = some (.int .i64 v) := by unfold obV; rw [Array.getElem?_append_left (by simp)]; rfl
theorem equal_ob (k v : Int) (f : Nat → Int) (w : World) : (Op.equalIn 10000 88 (.agg (obV k v f)) (.agg (obV k v f))).run Tryz.prog w = .ok true w := by
  rw [run_equalIn_struct w 9999 88 _ _ (by kernel_rfl) (by kernel_rfl)]
  have hf := ob_fields
  generalize (Tryz.prog.fieldsOf 88).toList = fs at hf
  have hl : fs.length = 3 := by have := congrArg List.length hf; simpa using this
  match fs, hl, hf with
  | [f0, f1, f2], _, hf =>
    simp only [List.map_cons, List.map_nil, List.cons.injEq, Prod.mk.injEq, decide_eq_false_iff_not, and_true] at hf
    obtain ⟨⟨a0, b0, c0⟩, ⟨a1, b1, c1⟩, ⟨a2, b2, c2⟩⟩ := hf
    have e : (k == k && (v == v && true)) = true := by simp
    rw [← e]
    refine run_eqField w 9998 _ _ f0 _ .i64 k k a0 (by rw [b0]; exact Tryz.underlying3) (by rw [c0]; exact ob_0 _ _ _) (by rw [c0]; exact ob_0 _ _ _) _ ?_
    refine run_eqField w 9998 _ _ f1 _ .i64 v v a1 (by rw [b1]; exact Tryz.underlying3) (by rw [c1]; exact ob_1 _ _ _) (by rw [c1]; exact ob_1 _ _ _) _ ?_
    rw [Op.eqFields, if_pos a2]
    simp only [b2, c2, Sem.run_bind, run_part_ln, Result.andThen_ok, equal_ln]
    simp [Op.eqFields]

end Go.Proofs.YtiafhcgaikapcaaGreat


/-
  A row of objects of the call's own that grows, beside a state; kind of steadfastlaw12; objects, Power among the arguments.
-/
namespace Go.Proofs.YtiafhcgaikapcaaGreat
open Go.ChangeShapes Go.WideShapes Go.ChangeAt Go.RowKit Go.Joins Go.Deep
set_option maxRecDepth 10000
set_option linter.unusedVariables false
set_option linter.unusedSimpArgs false

def obsL (l : List Ob) : List Value := l.flatMap obC
theorem obsL_len (l : List Ob) : (obsL l).length = l.length * 10 := by
  induction l with
  | nil => rfl
  | cons x r ih => show (obC x ++ obsL r).length = _; rw [List.length_append, ih, obC_len, List.length_cons]; omega
theorem obsL_app (l r : List Ob) : obsL (l ++ r) = obsL l ++ obsL r := by unfold obsL; rw [List.flatMap_append]
theorem obsL_get : ∀ (l : List Ob) (i j : Nat), i < l.length → j < 10 → (obsL l)[i * 10 + j]? = (obC (l.getD i ob0))[j]?
  | [], i, j, hi, _ => by simp at hi
  | x :: r, 0, j, hi, hj => by
    show (obC x ++ obsL r)[0 * 10 + j]? = (obC x)[j]?
    rw [Nat.zero_mul, Nat.zero_add, List.getElem?_append_left (by rw [obC_len]; exact hj)]
  | x :: r, i + 1, j, hi, hj => by
    show (obC x ++ obsL r)[(i + 1) * 10 + j]? = _
    rw [List.getElem?_append_right (by rw [obC_len]; omega), obC_len, show (i + 1) * 10 + j - 10 = i * 10 + j by omega]
    exact obsL_get r i j (by simpa using hi) hj
theorem obC_one (x : Ob) : ∀ u ∈ obC x, u.oneCell' = true := fun u hu => by
  have := obV_one x.k x.v x.l
  rw [Array.all_eq_true] at this
  obtain ⟨i, hi, rfl⟩ := List.getElem_of_mem hu
  exact this i (by simpa [obC] using hi)
def RowO (base : Nat) (v : Value) (l : List Ob) (w : World) : Prop := w.ownsRow base 88 10 v l.length (obsL l)
theorem RowO.same {base : Nat} {v : Value} {l : List Ob} {w w' : World} (h : RowO base v l w) (hs : ∀ k, v.ownBlock = some k → w'.heap[k]? = w.heap[k]?) : RowO base v l w' := by
  refine ⟨h.1, ?_⟩
  rcases h.2 with h' | ⟨g, cap, cur, rfl, h1, h2, h3⟩
  · exact Or.inl h'
  · exact Or.inr ⟨g, cap, cur, rfl, h1, (hs g rfl).trans h2, h3⟩
theorem RowO.lt {base : Nat} {v : Value} {l : List Ob} {w : World} (h : RowO base v l w) : ∀ k, v.ownBlock = some k → base ≤ k ∧ k < w.heap.size := fun k hk => World.ownsRow.lt h k hk
/-- It lies behind a slice. -/
theorem RowO.at {base : Nat} {v : Value} {l : List Ob} {w : World} (h : RowO base v l w) : ∃ p cap, v = .slice p l.length cap ∧ l.length ≤ cap ∧ (∀ w' : World, (∀ k, v.ownBlock = some k → w'.heap[k]? = w.heap[k]?) → ObsAt w' p l) := by
  rcases h.2 with ⟨rfl, h0⟩ | ⟨g, cap, cur, rfl, hb, hg, hc, _⟩
  · exact ⟨none, 0, by rw [h0], by rw [h0]; exact Nat.le_refl _, fun w' _ => Or.inl (List.eq_nil_of_length_eq_zero h0)⟩
  · refine ⟨some ⟨g, 0, none⟩, cap, rfl, hc, fun w' hs => Or.inr ⟨g, 0, rfl, fun i hi j u hu => ?_⟩⟩
    have hj : j < 10 := by
      rcases Nat.lt_or_ge j 10 with q | q
      · exact q
      · rw [List.getElem?_eq_none (by rw [obC_len]; exact q)] at hu; cases hu
    have h' : RowO base (.slice (some ⟨g, 0, none⟩) l.length cap) l w' := h.same hs
    rw [show 0 + i * 10 + j = i * 10 + j by omega, World.ownsRow.cellAt h' (i * 10 + j) (by omega), obsL_get l i j hi hj]
    exact hu
/-- A row of objects, as a state in a block of its own. -/
def ObSt (base : Nat) (v : Value) (l : List Ob) (w : World) (C : Nat → Prop) : Prop := (∀ k, C k ↔ v.ownBlock = some k) ∧ RowO base v l w
theorem obSt_loc (base : Nat) (v : Value) (l : List Ob) : Loc (ObSt base v l) := fun w w' C ⟨h1, h2⟩ hs => ⟨h1, h2.same fun k hk => hs k ((h1 k).2 hk)⟩
theorem keeps_madeI {F : Nat → Prop} {w w' : World} {o : Obj} (hk : Keeps F w w') (h : w'.heap[w.heap.size]? = some o) : Keeps F (w.alloc o) w' := by
  have hlt : w.heap.size < w'.heap.size := by
    rcases Nat.lt_or_ge w.heap.size w'.heap.size with q | q
    · exact q
    · rw [Array.getElem?_eq_none q] at h; cases h
  have hs : (w.alloc o).heap.size = w.heap.size + 1 := by simp
  refine ⟨hk.os, hk.tape, hk.output, by rw [hs]; omega, fun k hk' hF => ?_⟩
  rw [hs] at hk'
  by_cases e : k = w.heap.size
  · rw [e, h, heap_new]
  · rw [hk.block k (by omega) hF, Below.heap_alloc _ _ _ (by omega)]
theorem stay_growsI {W : World} {St : World → (Nat → Prop) → Prop} {F : Nat → Prop} {w w' : World} {G : Nat → Prop} (S : Stay W St) (h : St w G) (hk : Keeps F w w') :
    ∀ d, w.heap.size + d ≤ w'.heap.size → ∃ u, St u (fun k => G k ∨ (w.heap.size ≤ k ∧ k < w.heap.size + d)) ∧ Keeps F u w' ∧ u.heap.size = w.heap.size + d
  | 0, _ => ⟨w, S.ls _ _ _ h (fun k hk => by
      rcases hk with hk | hk
      · exact hk
      · omega), hk, rfl⟩
  | d + 1, hd => by
    obtain ⟨u, h1, h2, h3⟩ := stay_growsI S h hk d (by omega)
    obtain ⟨o, ho⟩ : ∃ o, w'.heap[u.heap.size]? = some o := ⟨w'.heap[u.heap.size]'(by omega), Array.getElem?_eq_getElem _⟩
    refine ⟨u.alloc o, S.ls _ _ _ (S.al _ _ o h1) (fun k hk => ?_), keeps_madeI h2 ho, by simp; omega⟩
    rcases hk with hk | hk
    · exact Or.inl (Or.inl hk)
    · by_cases e : k = u.heap.size
      · exact Or.inr e
      · exact Or.inl (Or.inr (by omega))
/-- The row has grown: the state stands beside it as before. -/
theorem stay_rowO {W : World} {St : World → (Nat → Prop) → Prop} {w w' : World} {G : Nat → Prop} {v v' : Value} {l l' : List Ob} (S : Stay W St) (h : QSt W St (ObSt W.heap.size v l) w G) (hg : w.grownBy w' v.ownBlock)
    (hr' : RowO W.heap.size v' l' w') (h5 : v'.ownBlock = v.ownBlock ∨ ∃ k, v'.ownBlock = some k ∧ w.heap.size ≤ k) : QSt W St (ObSt W.heap.size v' l') w' G ∧ Same G w w' := by
  obtain ⟨C, s1, ⟨c1, hr⟩, s3, s4⟩ := h
  have hk : Keeps (fun k => v.ownBlock = some k) w w' := Keeps.grown (Keeps.refl _ _) hg (fun k e => Or.inl e)
  have hltG : ∀ k, G k → k < w.heap.size := fun k hk => S.lt _ _ s1 k (Or.inl hk)
  obtain ⟨u, h1, h2, h3⟩ := stay_growsI S s1 hk (w'.heap.size - w.heap.size) (by have := hk.size; omega)
  have hin : ∀ k, (G k ∨ v'.ownBlock = some k) → (G k ∨ C k) ∨ (w.heap.size ≤ k ∧ k < w.heap.size + (w'.heap.size - w.heap.size)) := fun k hk' => by
    rcases hk' with hk' | hk'
    · exact Or.inl (Or.inl hk')
    · rcases h5 with h5 | ⟨k', h5, h6⟩
      · exact Or.inl (Or.inr ((c1 k).2 (h5.symm.trans hk')))
      · have e := Option.some.inj (h5.symm.trans hk')
        have := (hr'.lt k hk').2
        exact Or.inr (by omega)
  have hst : St w' (fun k => G k ∨ v'.ownBlock = some k) := by
    cases hv : v.ownBlock with
    | none =>
      rw [hv] at h2
      exact S.ls _ _ _ (S.bl _ _ _ h1 (h2.mono fun k _ e => by cases e)) hin
    | some L =>
      rw [hv] at h2
      exact S.ls _ _ _ (S.ow _ _ _ L h1 (Or.inl (Or.inr ((c1 L).2 hv))) (hr.lt L hv).1 (h2.mono fun k _ e => (Option.some.inj e).symm)) hin
  refine ⟨⟨fun k => v'.ownBlock = some k, hst, ⟨fun k => Iff.rfl, hr'⟩, fun k hk' e => ?_, fun k e => (hr'.lt k e).1⟩, fun k hk' => hk.block k (hltG k hk') (fun e => s3 k hk' ((c1 k).2 e))⟩
  rcases h5 with h5 | ⟨k', h5, h6⟩
  · exact s3 k hk' ((c1 k).2 (h5.symm.trans e))
  · have := Option.some.inj (h5.symm.trans e)
    have := hltG k hk'
    omega
theorem info_obj : (Tryz.prog.info? 88).map (fun i => (i.zero, i.size, i.bytes)) = some (some (.agg (obV 0 0 fun _ => 0)), 10, 80) := by kernel_rfl
theorem fill_one (k v : Int) (f : Nat → Int) : Instr.fill (fun i => some (i * 10, 10)) ((Array.range (1 * 10)).map ((Value.agg (obV 0 0 fun _ => 0)).cells[· % (Value.agg (obV 0 0 fun _ => 0)).cells.size]!)) [(0, .agg (obV k v f))] = some (obV k v f) := by kernel_rfl
theorem wpList_obj1 {ops : Array Oper} {rest : List Oper} {o : Oper} {a : Act} {w : World} {Q : Exit → Act → World → Prop} (hg : o.guard = none) (x0 : Operand) (ho : o.op = .buildSlice 101 1 #[(0, x0)]) (k v : Int) (f : Nat → Int) (h0 : a.eval x0 = .agg (obV k v f))
    (h : wpList Tryz.prog ops Q rest (a.put o.dst (.slice (some ⟨w.heap.size, 0, none⟩) 1 1)) (w.alloc (.cells (obV k v f) 88))) : wpList Tryz.prog ops Q (o :: rest) a w := by
  obtain ⟨ie, hie, hz, hs, -⟩ := info_parts info_obj
  refine wpList_buildSlice hg 101 88 1 _ ho (obV k v f) ie _ Tryz.underlying101 hie hz (by rw [hs]; decide) (by rw [hs]; decide) ?_ h
  rw [hs]
  have e : (#[((0 : Nat), x0)].map fun (i, x) => (i, a.eval x)).toList = [(0, .agg (obV k v f))] := by simp [h0]
  rw [e]
  exact fill_one k v f
/-- A new row, of nothing. -/
theorem QSt.row0 {W w : World} {St : World → (Nat → Prop) → Prop} {G : Nat → Prop} (S : Stay W St) (h : St w G) : QSt W St (ObSt W.heap.size (.slice (some ⟨w.heap.size, 0, none⟩) 0 0) []) (w.alloc (.cells #[] 88)) G ∧ Same G w (w.alloc (.cells #[] 88)) := by
  have hlt := S.lt _ _ h
  refine ⟨⟨fun k => k = w.heap.size, S.al _ _ _ h, ⟨fun k => ?_, World.ownsRow_lit (base := W.heap.size) (e := 88) (size := 10) w #[] 0 (S.sz _ _ h).size (by decide) rfl⟩, fun k hk e => ?_, fun k e => e ▸ (S.sz _ _ h).size⟩, fun k hk => Below.heap_alloc _ _ _ (hlt k hk)⟩
  · show _ ↔ some w.heap.size = some k
    exact ⟨fun e => by rw [e], fun e => (Option.some.inj e).symm⟩
  · have := hlt k hk; omega
/-- Some more objects behind the row, beside a state. -/
theorem push_obs {W w : World} {St : World → (Nat → Prop) → Prop} {G : Nat → Prop} {v : Value} {l : List Ob} {ops : Array Oper} {rest : List Oper} {o : Oper} {a : Act} {Q : Exit → Act → World → Prop} (S : Stay W St) (r : List Ob) (gx c : Nat) (hgd : o.guard = none) (s x : Operand)
    (ho : o.op = .call { callee := .builtin .append, args := #[s, x], argTypes := #[101, 101] }) (hs : a.eval s = v) (hst : QSt W St (ObSt W.heap.size v l) w G) (hx : a.eval x = .slice (some ⟨gx, 0, none⟩) r.length c) (hr : ObsAt w (some ⟨gx, 0, none⟩) r) (hlen : l.length + r.length < 1000)
    (h : ∀ v' w', QSt W St (ObSt W.heap.size v' (l ++ r)) w' G → Same G w w' → (v ≠ .slice none 0 0 → v' ≠ .slice none 0 0) → wpList Tryz.prog ops Q rest (a.put o.dst v') w') : wpList Tryz.prog ops Q (o :: rest) a w := by
  obtain ⟨i0, hi, hz0, hz1, hz2⟩ := info_parts info_obj
  obtain ⟨C, s1, ⟨c1, hrow⟩, s3, s4⟩ := id hst
  refine wpList_append_own_at _ hgd s x 101 ho W.heap.size 88 i0 (.agg (obV 0 0 fun _ => 0)) 10 80 Tryz.underlying101 hi hz0 hz1 hz2 (obV_size 0 0 _) (by decide) v l.length (obsL l) hs hrow ⟨gx, 0, none⟩ r.length c (obsL r) hx (obsL_len r) ?_ ?_ ?_ ?_ ?_ ?_
  · intro j u hj
    have hjl : j < r.length * 10 := by
      rcases Nat.lt_or_ge j (r.length * 10) with q | q
      · exact q
      · rw [List.getElem?_eq_none (by rw [obsL_len]; exact q)] at hj; cases hj
    obtain ⟨p, q, hq, rfl⟩ : ∃ p q, q < 10 ∧ j = p * 10 + q := ⟨j / 10, j % 10, by omega, by omega⟩
    have hp : p < r.length := by omega
    obtain ⟨g, o', e, hrg⟩ := hr.range p hp
    cases e
    rw [obsL_get r p q hp hq] at hj
    have := hrg q u hj
    rw [Addr.add_mid]
    rw [show 0 + (p * 10 + q) = 0 + p * 10 + q by omega]
    exact this
  · intro u hu
    obtain ⟨y, _, hy⟩ := List.mem_flatMap.1 hu
    exact obC_one y u hy
  · unfold maxLen; omega
  · omega
  · exact (S.sz _ _ s1).size
  · intro v' w' h2 h3 h4 h5
    have h2' : RowO W.heap.size v' (l ++ r) w' := by
      show w'.ownsRow W.heap.size 88 10 v' (l ++ r).length (obsL (l ++ r))
      rw [List.length_append, obsL_app]; exact h2
    obtain ⟨q1, q2⟩ := stay_rowO S hst h3 h2' (h5.imp id fun e => ⟨_, e, Nat.le_refl _⟩)
    exact h v' w' q1 q2 fun hv e => hv (h4.1 e).1
/-- A word of the row is stored. -/
theorem QSt.stored {W w : World} {St : World → (Nat → Prop) → Prop} {G : Nat → Prop} {g n cap : Nat} {l l' : List Ob} (S : Stay W St) (h : QSt W St (ObSt W.heap.size (.slice (some ⟨g, 0, none⟩) n cap) l) w G) (hn : l.length = n) (hl : l'.length = n) (j : Nat) (u : Value) (hs : obsL l' = (obsL l).set j u) :
    QSt W St (ObSt W.heap.size (.slice (some ⟨g, 0, none⟩) n cap) l') (w.setCell ⟨g, j, none⟩ u) G ∧ Same G w (w.setCell ⟨g, j, none⟩ u) := by
  subst hn
  obtain ⟨C, s1, ⟨c1, hrow⟩, s3, s4⟩ := id h
  obtain ⟨q1, q2⟩ := World.ownsRow.stored hrow j u
  refine stay_rowO S h q2 ?_ (Or.inl rfl)
  show World.ownsRow _ _ _ _ _ l'.length (obsL l')
  rw [hl, hs]; exact q1
/-- What lies in the row. -/
theorem QSt.cellO {W w : World} {St : World → (Nat → Prop) → Prop} {G : Nat → Prop} {g n cap : Nat} {l : List Ob} (h : QSt W St (ObSt W.heap.size (.slice (some ⟨g, 0, none⟩) n cap) l) w G) (hn : l.length = n) (i j : Nat) (hi : i < n) (hj : j < 10) : w.cell? ⟨g, i * 10 + j, none⟩ = (obC (l.getD i ob0))[j]? ∧ w.frozen? ⟨g, i * 10 + j, none⟩ = false := by
  subst hn
  obtain ⟨C, s1, ⟨c1, hrow⟩, s3, s4⟩ := h
  exact ⟨(World.ownsRow.cellAt hrow _ (by omega)).trans (obsL_get l i j hi hj), World.ownsRow.frozenAt hrow _⟩
theorem QSt.rangeO {W w : World} {St : World → (Nat → Prop) → Prop} {G : Nat → Prop} {g n cap : Nat} {l : List Ob} (h : QSt W St (ObSt W.heap.size (.slice (some ⟨g, 0, none⟩) n cap) l) w G) (hn : l.length = n) (i : Nat) (hi : i < n) : w.rangeAt g (i * 10) (obC (l.getD i ob0)) := fun j u hu => by
  have hj : j < 10 := by
    rcases Nat.lt_or_ge j 10 with q | q
    · exact q
    · rw [List.getElem?_eq_none (by rw [obC_len]; exact q)] at hu; cases hu
  rw [(h.cellO hn i j hi hj).1]; exact hu
/-- Where it is, while its state is beside another. -/
theorem QSt.obsAt {W w : World} {St : World → (Nat → Prop) → Prop} {G : Nat → Prop} {v : Value} {l : List Ob} (h : QSt W St (ObSt W.heap.size v l) w G) (hv : v ≠ .slice none 0 0) : ∃ g cap, v = .slice (some ⟨g, 0, none⟩) l.length cap ∧ W.heap.size ≤ g ∧ ObsAt w (some ⟨g, 0, none⟩) l := by
  obtain ⟨C, s1, ⟨c1, hrow⟩, s3, s4⟩ := h
  rcases hrow.2 with ⟨rfl, _⟩ | ⟨g, cap, cur, rfl, hb, hg, hc, _⟩
  · exact absurd rfl hv
  · obtain ⟨p, cap', e, _, hat⟩ := RowO.at hrow
    cases e
    exact ⟨g, cap, rfl, hb, hat w fun k _ => rfl⟩

/-! ### the company of a memory, with more blocks beside it -/
theorem Done.q {W w : World} {St' : World → (Nat → Prop) → Prop} {R : World → (Nat → Prop) → Prop} (hR : Loc R) {G C : Nat → Prop} {v : Value} {e : Ending} {w' : World} (h2 : R w C) (h3 : ∀ k, G k → ¬ C k) (h4 : ∀ k, C k → W.heap.size ≤ k) (h : Done St' w (fun k => G k ∨ C k) v e w') : Done (QSt W St' R) w G v e w' :=
  ⟨h.1, ⟨C, h.2.1, hR _ _ _ h2 (fun k hk => h.2.2 k (Or.inr hk)), h3, h4⟩, fun k hk => h.2.2 k (Or.inl hk)⟩
theorem MemI.q {W : World} {m : Nat} {St : Mm → World → (Nat → Prop) → Prop} (M : MemI W m St) {R : World → (Nat → Prop) → Prop} (hR : Loc R) : MemI W m (fun A w G => QSt W (St A) R w G) where
  stay := fun A => QSt.stay (M.stay A) hR
  store := fun w G A ⟨C, h1, h2, h3, h4⟩ hok z q v => (M.store w _ A h1 hok z q v).mono fun e w' hd => hd.q hR h2 h3 h4
  lines := fun w G A ⟨C, h1, h2, h3, h4⟩ => M.lines w _ A h1
  load := fun w G A ⟨C, h1, h2, h3, h4⟩ hn z => (M.load w _ A h1 hn z).mono fun e w' hd => hd.q hR h2 h3 h4
  flush := fun w G A ⟨C, h1, h2, h3, h4⟩ hok y z => (M.flush w _ A h1 hok y z).mono fun e w' hd => hd.q hR h2 h3 h4
  fence := fun w G A ⟨C, h1, h2, h3, h4⟩ hok y => (M.fence w _ A h1 hok y).mono fun e w' hd => hd.q hR h2 h3 h4
  write := fun w G A ⟨C, h1, h2, h3, h4⟩ hok core slot s hs => (M.write w _ A h1 hok core slot s hs).mono fun e w' hd => hd.q hR h2 h3 h4
  find := fun w G A ⟨C, h1, h2, h3, h4⟩ hok => (M.find w _ A h1 hok).mono fun e w' hd => hd.q hR h2 h3 h4
  dir := fun w G A ⟨C, h1, h2, h3, h4⟩ hok fr root hz => M.dir w _ A h1 hok fr root hz
  scan := fun w G A ⟨C, h1, h2, h3, h4⟩ hok z => (M.scan w _ A h1 hok z).mono fun e w' ⟨v, he, ⟨D, d1, d2, d3, d4⟩, hs⟩ => by
    refine ⟨v, he, ⟨D, ⟨C, (M.stay A).ls _ _ _ d1 (fun k hk => ?_), hR _ _ _ h2 (fun k hk => hs k (Or.inr hk)), fun k hk hc => ?_, h4⟩, d2, fun k hk => d3 k (Or.inl hk), d4⟩, fun k hk => hs k (Or.inl hk)⟩
    · rcases hk with (hk | hk) | hk
      · exact Or.inl (Or.inl hk)
      · exact Or.inr hk
      · exact Or.inl (Or.inr hk)
    · rcases hk with hk | hk
      · exact h3 k hk hc
      · exact d3 k (Or.inr hc) hk

/-! ### kind -/
theorem ikind_any (z : Int) (hz : In64 z) (n : Nat) (hn : 1 ≤ n) (hn2 : n ≤ 2000) (w : World) :
    Calls Tryz.prog 49 #[.int .i64 z, .int .i64 (n : Int)] w fun e w' => e = .returned (.int .i64 ((kindN z n : Nat) : Int)) ∧ w' = w := by
  obtain ⟨z0, z1⟩ := hz
  by_cases hneg : z < 0
  · go_enter Tryz.func49, Tryz.ntmps49
    go_wp2
    go_ret
    refine ⟨oret_int ?_, rfl⟩
    unfold kindN
    rw [if_pos hneg]
    exact otmod_neg z hneg _ (by omega)
  · go_enter Tryz.func49, Tryz.ntmps49
    go_wp2
    go_ret
    refine ⟨oret_int ?_, rfl⟩
    unfold kindN
    rw [if_neg (by omega)]
    first | exact oemod_toNat z _ (by omega) | exact otmod_pos z (by omega) _ (by omega)

/-! ### the arguments -/
def obKs : List (Option IntKind) := [some .i64, some .i64] ++ List.replicate 8 (some .u64)
theorem fit_ob {cs : List Value} (h : AllFit obKs cs) : ∃ x : Ob, cs = obC x ∧ ObIn x := by
  have key : ∀ (ks : List (Option IntKind)) (cs : List Value), AllFit (some .i64 :: some .i64 :: ks) cs → ∃ z0 z1 ds, cs = .int .i64 z0 :: .int .i64 z1 :: ds ∧ (Lit.int .i64 z0).wf = true ∧ (Lit.int .i64 z1).wf = true ∧ AllFit ks ds := by
    intro ks cs h
    cases cs with
    | nil => exact h.elim
    | cons c0 r =>
      cases r with
      | nil => exact h.2.elim
      | cons c1 ds =>
        obtain ⟨⟨z0, e0, w0⟩, ⟨z1, e1, w1⟩, h⟩ := h
        exact ⟨z0, z1, ds, by rw [e0, e1], w0, w1, h⟩
  obtain ⟨z0, z1, ds, rfl, w0, w1, h'⟩ := key (List.replicate 8 (some .u64)) cs h
  · obtain ⟨zs, hl, hz, hw⟩ := allFit_ints .u64 8 ds h'
    refine ⟨⟨z0, z1, fun j => zs.getD j 0⟩, ?_, in64_wf w0, in64_wf w1, fun j => ?_⟩
    · have e : ds = (lnV fun j => zs.getD j 0).toList := by
        rw [hz]
        refine List.ext_getElem? fun j => ?_
        by_cases hj : j < 8
        · rw [Array.getElem?_toList (xs := lnV _), lnV_get _ _ hj, List.getElem?_map, List.getElem?_eq_getElem (by omega), List.getD_eq_getElem?_getD, List.getElem?_eq_getElem (by omega)]; rfl
        · rw [List.getElem?_eq_none (by rw [List.length_map]; omega), List.getElem?_eq_none (by rw [Array.length_toList, lnV_size]; omega)]
      show _ = (obV z0 z1 fun j => zs.getD j 0).toList
      unfold obV
      rw [Array.toList_append, ← e]; rfl
    · show InU (zs.getD j 0)
      by_cases hj : j < zs.length
      · rw [List.getD_eq_getElem?_getD, List.getElem?_eq_getElem hj]
        exact inU_wf (hw _ (List.getElem_mem hj))
      · rw [List.getD_eq_getElem?_getD, List.getElem?_eq_none (by omega)]
        show InU 0; exact ⟨by decide, by decide⟩
instance : Inhabited Ob := ⟨ob0⟩
theorem open_obs {H : Type} {enc : TypeId × Value → H} {W : World} {r : Reach} {b0 : Nat} {v : Value} {d : DataW H} {p : List MemPlace} (hv : Value.okWide Tryz.prog W r b0 101 v)
    (h : DataW.Trod enc Tryz.prog W 0 (fun _ => true) true 101 v d p) : ∃ (a : Option Addr) (cap : Nat) (l : List Ob), v = .slice a l.length cap ∧ l.length ≤ cap ∧ l.length ≤ 9223372036854775807 ∧ ObsAt W a l ∧ ∀ x ∈ l, ObIn x := by
  obtain ⟨a, len, cap, rfl⟩ := okWide_slice Tryz.underlying101 hv
  obtain ⟨fuel, hf⟩ := h
  have k10 : Tryz.prog.cellsOf 88 = 10 := by kernel_rfl
  rcases open_slice Tryz.underlying101 hf with ⟨hcs, _⟩ | ⟨x, l, c, m, n, D, Pl, hcs, hb, hl, hm, hmm, hd, hx⟩
  · simp [Value.cells] at hcs
    obtain ⟨rfl, rfl, rfl⟩ := hcs
    exact ⟨none, 0, [], rfl, by decide, by decide, Or.inl rfl, fun x hx => by cases hx⟩
  · simp [Value.cells] at hcs
    obtain ⟨rfl, rfl, rfl⟩ := hcs
    rw [k10] at hx
    have hlm : len ≤ m := by rw [hmm]; simp; exact hl
    unfold maxLen at hm
    obtain ⟨s, hs⟩ := choose_lt (α := Ob) (n := len) (p := fun i y => (∀ j, j < 10 → W.cell? (x.add (i * 10 + j)) = (obC y)[j]?) ∧ ObIn y) (fun i hi => by
      obtain ⟨cs', h1, h2⟩ := hx i (by omega)
      obtain ⟨_, hlen, hcell⟩ := World.cells?_some h1
      obtain ⟨y, rfl, hy⟩ := fit_ob (flat_of_trod (P := Tryz.prog) 4 88 (ks := obKs) (by kernel_rfl) h2)
      refine ⟨y, fun j hj => ?_, hy⟩
      have := hcell j hj
      rw [add_add] at this
      exact this)
    refine ⟨some x, cap, (List.range len).map s, by simp, by simpa using hl, by simp; omega, ?_, fun y hy => ?_⟩
    · by_cases h0 : len = 0
      · left; subst h0; rfl
      · right
        obtain ⟨b, off, spot⟩ := x
        have hspot : spot = none := by
          have h00 := (hs 0 (by omega)).1 0 (by omega)
          have : W.cell? ((⟨b, off, spot⟩ : Addr).add 0) = some (.int .i64 (s 0).k) := h00
          simpa [Addr.add] using World.cell?_spot this
        subst hspot
        refine ⟨b, off, rfl, fun i hi j u hj => ?_⟩
        have hi' : i < len := by simpa using hi
        have hj10 : j < 10 := by
          rcases Nat.lt_or_ge j 10 with q | q
          · exact q
          · rw [List.getElem?_eq_none (by rw [obC_len]; exact q)] at hj; cases hj
        have := (hs i hi').1 j hj10
        rw [Addr.add_mid] at this
        rw [show off + i * 10 + j = off + (i * 10 + j) by omega, this, ← hj]
        congr 2
        rw [List.getD_eq_getElem?_getD, List.getElem?_map, List.getElem?_range hi']; rfl
    · obtain ⟨i, hi, rfl⟩ := List.mem_map.1 hy
      exact (hs i (List.mem_range.1 hi)).2

theorem open_powerI {H : Type} {enc : TypeId × Value → H} {W : World} {r : Reach} {b0 : Nat} {v : Value} {d : DataW H} {p : List MemPlace}
    (hv : Value.okWide Tryz.prog W r b0 103 v) (h : DataW.Trod enc Tryz.prog W 0 (fun _ => true) true 103 v d p) :
    ∃ (z : Int) (a : Option Addr) (keep : List Int) (cap : Nat), v = .agg #[.int .i64 z, .slice a keep.length cap] ∧ In64 z ∧ IntsAt W a keep ∧ (∀ z ∈ keep, In64 z) ∧ keep.length ≤ 9223372036854775807 := by
  obtain ⟨fuel, hf⟩ := h
  have : ∃ cs, v = .agg cs ∧ cs.size = 2 := by
    simp only [Value.okWide, Tryz.underlying103] at hv
    obtain ⟨cs, h1, h2⟩ := hv
    refine ⟨cs, h1, ?_⟩
    subst h1
    obtain ⟨xs, k, hk, hxy, hcl, hxl, hf2⟩ := DataW.trod_struct Tryz.underlying103 hf
    have : Tryz.prog.cellsOf 103 = 2 := by kernel_rfl
    simpa [Value.cells, this] using hcl
  obtain ⟨cs, rfl, hsz⟩ := this
  obtain ⟨xs, k, hk, hxy, hcl, hxl, hf2⟩ := DataW.trod_struct Tryz.underlying103 hf
  have hlen : xs.length = 2 := by simpa using hxl
  have hl2 : cs.toList.length = 2 := by simpa using hsz
  have k1 : Tryz.prog.cellsOf 3 = 1 := by kernel_rfl
  have k3 : Tryz.prog.cellsOf 85 = 1 := by kernel_rfl
  match hcs : cs.toList, hl2, xs, hlen with
  | [c0, c1], _, [y0, y1], _ =>
    have g0 := hf2 0 _ rfl
    have g1 := hf2 1 _ rfl
    simp [k1, k3, Value.cells, hcs] at g0 g1
    obtain ⟨z0, e0, _, w0⟩ := DataW.trod_int Tryz.underlying3 g0
    obtain ⟨a, zs, n, cap, e1, hr⟩ := row_of_trod Tryz.underlying85 Tryz.underlying3 (by kernel_rfl) g1
    simp at e0
    subst e0 e1
    obtain ⟨q1, q2, q3⟩ := hr.keep
    refine ⟨z0, a, zs, cap, ?_, in64_wf w0, q1, q2, q3⟩
    rw [← Array.toArray_toList (xs := cs), hcs, hr.1]

end Go.Proofs.YtiafhcgaikapcaaGreat


/-
  Up to thirty objects of a call's own, made an image of two cores; up to four records behind it: what each word is, in the order that they are done again. No program.
-/
namespace Go.Proofs.YtiafhcgaikapcaaGreat
set_option linter.unusedVariables false
set_option maxRecDepth 10000

def ownX (x : Ob) : Ob := ⟨1 + (kindN x.k 4 : Nat), (kindN x.v 100 : Nat), x.l⟩
def ownO (l : List Ob) (i : Nat) : List Ob := (l.take i).map ownX
theorem ownO_len (l : List Ob) (i : Nat) (h : i ≤ l.length) : (ownO l i).length = i := by unfold ownO; rw [List.length_map, List.length_take]; omega
theorem ownO_next (l : List Ob) (i : Nat) (h : i < l.length) : ownO l (i + 1) = ownO l i ++ [ownX (l.getD i ob0)] := by
  unfold ownO
  rw [List.take_add_one, List.map_append, List.getElem?_eq_getElem h, List.getD_eq_getElem?_getD, List.getElem?_eq_getElem h]; rfl
theorem ownX_in {x : Ob} (h : ObIn x) : ObIn (ownX x) := by
  have h1 := kindN_lt x.k 4 (by decide)
  have h2 := kindN_lt x.v 100 (by decide)
  exact ⟨⟨by show _ ≤ (1 : Int) + _; omega, by show (1 : Int) + _ ≤ _; omega⟩, ⟨by show _ ≤ ((_ : Nat) : Int); omega, by show ((_ : Nat) : Int) ≤ _; omega⟩, h.2.2⟩
theorem ownO_in {l : List Ob} (h : ∀ x ∈ l, ObIn x) (i : Nat) : ∀ x ∈ ownO l i, ObIn x := fun x hx => by
  obtain ⟨y, hy, rfl⟩ := List.mem_map.1 hx
  exact ownX_in (h y (List.mem_of_mem_take hy))
theorem ownO_k {l : List Ob} (i : Nat) : ∀ x ∈ ownO l i, x.k ≠ 0 := fun x hx => by
  obtain ⟨y, hy, rfl⟩ := List.mem_map.1 hx
  show (1 : Int) + _ ≠ 0
  omega
theorem ownO_fmt (l : List Ob) (i : Nat) (hi : i ≤ 30) : fmtB ((2 : Nat) : Int) (ownO l i) = true := by
  unfold fmtB
  rw [Bool.and_eq_true, Bool.and_eq_true]
  refine ⟨by decide, ?_, ?_⟩
  · rw [decide_eq_true_iff]; unfold ownO; rw [List.length_map, List.length_take]; omega
  · rw [List.all_eq_true]
    intro x hx
    have hk := ownO_k i x hx
    obtain ⟨y, hy, rfl⟩ := List.mem_map.1 hx
    have h1 := kindN_lt y.k 4 (by decide)
    have h2 := kindN_lt y.v 100 (by decide)
    unfold obM
    rw [Bool.and_eq_true, decide_eq_true_iff, Bool.or_eq_true, decide_eq_true_iff]
    exact ⟨⟨⟨by show (0 : Int) ≤ 1 + _; omega, by show (1 : Int) + _ ≤ 4; omega⟩, by show (0 : Int) ≤ ((_ : Nat) : Int); omega, by show ((_ : Nat) : Int) ≤ _; omega⟩, Or.inl hk⟩

/-! ### the records -/
def rcA (v : List Int) (i : Nat) : Rc := ⟨(i : Int) + 1, (v.getD i 0) % 30, (i : Int), v.getD i 0⟩
def atA (i : Nat) : Nat := 2 + 4 * (i % 2) + i / 2
def fA (v : List Int) : Nat → Nat → Option Rc
  | 0 => fun _ => none
  | i + 1 => upd (fA v i) (atA i) (some (rcA v i))
theorem fA_no (v : List Int) (i : Nat) (hi : i < 4) : fA v i (atA i) = none := by
  match i, hi with
  | 0, _ => rfl
  | 1, _ => rfl
  | 2, _ => rfl
  | 3, _ => rfl
theorem rcA_busy (v : List Int) (i : Nat) : decide ((rcA v i).q ≤ 0) = false := by
  rw [decide_eq_false_iff_not]
  show ¬ ((i : Int) + 1 ≤ 0)
  omega
theorem fA_busy (v : List Int) (i : Nat) (hi : i < 4) : ∀ j, j < i / 2 → freeI (fA v i) (i % 2) 0 j = false := by
  match i, hi with
  | 0, _ => intro j hj; exact absurd hj (Nat.not_lt_zero j)
  | 1, _ => intro j hj; exact absurd hj (Nat.not_lt_zero j)
  | 2, _ =>
    intro j hj
    obtain rfl : j = 0 := by omega
    exact rcA_busy v 0
  | 3, _ =>
    intro j hj
    obtain rfl : j = 0 := by omega
    exact rcA_busy v 1
theorem mayR_A (v : List Int) (i : Nat) (hi : i < 4) (hv : 0 ≤ v.getD i 0) : mayR (rcA v i) = true := by
  unfold mayR
  rw [decide_eq_true_iff]
  have h1 : 0 ≤ (v.getD i 0) % 30 := Int.emod_nonneg _ (by decide)
  have h2 : (v.getD i 0) % 30 < 30 := Int.emod_lt_of_pos _ (by decide)
  exact ⟨by show 1 ≤ (i : Int) + 1; omega, by show (i : Int) + 1 ≤ _; omega, h1, by show (v.getD i 0) % 30 < 49; omega, by show 0 ≤ (i : Int); omega, by show (i : Int) < 8; omega⟩
def rsA (v : List Int) (n : Nat) : List Rc := (List.range n).map (rcA v)
theorem rsA_len (v : List Int) (n : Nat) : (rsA v n).length = n := by unfold rsA; rw [List.length_map, List.length_range]
theorem rsA_get (v : List Int) (n i : Nat) (h : i < n) : (rsA v n).getD i zr = rcA v i := by
  unfold rsA
  rw [List.getD_eq_getElem?_getD, List.getElem?_map, List.getElem?_range h]; rfl
theorem rsA_gr (v : List Int) (n : Nat) : ∀ j, j ≤ n → grQ 0 (rsA v n) j = (j : Int)
  | 0, _ => rfl
  | j + 1, h => by
    show max (grQ 0 (rsA v n) j) ((rsA v n).getD j zr).q = _
    rw [rsA_gr v n j (by omega), rsA_get v n j (by omega)]
    show max (j : Int) ((j : Int) + 1) = _
    omega
theorem rsA_sort (v : List Int) (n : Nat) (hn : n ≤ 4) : sortR (recI (fA v n) (4 * 2)) = rsA v n :=
  match n, hn with
  | 0, _ => by kernel_rfl
  | 1, _ => by kernel_rfl
  | 2, _ => by kernel_rfl
  | 3, _ => by kernel_rfl
  | 4, _ => by kernel_rfl

/-! ### what each object holds at the end -/
def wantC (v : List Int) (own : List Ob) : Nat → Nat → Nat → Int
  | 0 => fun i => (own.getD i ob0).l
  | i + 1 => if redB (tabO (fromN 2) own) 0 (rcA v i) = true then upd (wantC v own i) (rcA v i).d.toNat (upd (wantC v own i (rcA v i).d.toNat) (rcA v i).o.toNat (rcA v i).v) else wantC v own i
theorem wantC_red (v : List Int) (own : List Ob) (n : Nat) : ∀ i, i ≤ n → redC (tabO (fromN 2) own) 0 (rsA v n) (fun i => (own.getD i ob0).l) i = wantC v own i
  | 0, _ => rfl
  | i + 1, h => by
    show (if redB (tabO (fromN 2) own) 0 ((rsA v n).getD i zr) = true then _ else _) = _
    rw [rsA_get v n i (by omega), wantC_red v own n i (by omega)]; rfl
def wantO (v : List Int) (own : List Ob) (i : Nat) : List Ob := (List.range own.length).map fun j => ⟨(own.getD j ob0).k, (own.getD j ob0).v, wantC v own i j⟩
theorem wantO_len (v : List Int) (own : List Ob) (i : Nat) : (wantO v own i).length = own.length := by unfold wantO; rw [List.length_map, List.length_range]
theorem wantO_get (v : List Int) (own : List Ob) (i j : Nat) (h : j < own.length) : (wantO v own i).getD j ob0 = ⟨(own.getD j ob0).k, (own.getD j ob0).v, wantC v own i j⟩ := by
  unfold wantO
  rw [List.getD_eq_getElem?_getD, List.getElem?_map, List.getElem?_range h]; rfl
theorem wantO_zero (v : List Int) (own : List Ob) : wantO v own 0 = own := by
  refine List.ext_getElem? fun j => ?_
  unfold wantO
  rw [List.getElem?_map]
  by_cases h : j < own.length
  · rw [List.getElem?_range h, List.getElem?_eq_getElem h]
    show some (Ob.mk (own.getD j ob0).k (own.getD j ob0).v (own.getD j ob0).l) = _
    rw [List.getD_eq_getElem?_getD, List.getElem?_eq_getElem h]; rfl
  · rw [List.getElem?_eq_none (by rw [List.length_range]; omega), List.getElem?_eq_none (by omega)]; rfl
theorem redB_A (v : List Int) (own : List Ob) (i d : Nat) (hd : v.getD i 0 % 30 = (d : Int)) : redB (tabO (fromN 2) own) 0 (rcA v i) = true ↔ d < own.length ∧ (own.getD d ob0).k = 1 := by
  unfold redB
  rw [Bool.and_eq_true, decide_eq_true_iff, decide_eq_true_iff]
  have e : (rcA v i).d.toNat = d := by show (v.getD i 0 % 30).toNat = d; omega
  rw [e]
  have hq : (0 : Int) < (rcA v i).q := by show (0 : Int) < (i : Int) + 1; omega
  unfold tabO
  by_cases h : d < own.length
  · rw [if_pos h]
    exact ⟨fun q => ⟨h, q.2⟩, fun q => ⟨hq, q.2⟩⟩
  · rw [if_neg h]
    exact ⟨fun q => absurd q.2 (by show ¬ ((0 : Int) = 1); decide), fun q => absurd q.1 h⟩
theorem wantO_no (v : List Int) (own : List Ob) (i d : Nat) (hd : v.getD i 0 % 30 = (d : Int)) (h : ¬ (d < own.length ∧ (own.getD d ob0).k = 1)) : wantO v own (i + 1) = wantO v own i := by
  have : wantC v own (i + 1) = wantC v own i := if_neg fun q => h ((redB_A v own i d hd).1 q)
  unfold wantO; rw [this]
/-- Its cells, behind the store of a word. -/
theorem obsL_set (l : List Ob) (d o : Nat) (hd : d < l.length) (ho : o < 8) (z : Int) : obsL (l.set d ⟨(l.getD d ob0).k, (l.getD d ob0).v, upd (l.getD d ob0).l o z⟩) = (obsL l).set (d * 10 + 2 + o) (.int .u64 z) := by
  refine List.ext_getElem? fun m => ?_
  by_cases hm : m < l.length * 10
  · obtain ⟨a, b, hb, rfl⟩ : ∃ a b, b < 10 ∧ m = a * 10 + b := ⟨m / 10, m % 10, by omega, by omega⟩
    have ha : a < l.length := by omega
    rw [obsL_get _ a b (by rw [List.length_set]; exact ha) hb, List.getElem?_set]
    by_cases e : a = d
    · subst e
      have hx : (l.set a ⟨(l.getD a ob0).k, (l.getD a ob0).v, upd (l.getD a ob0).l o z⟩).getD a ob0 = ⟨(l.getD a ob0).k, (l.getD a ob0).v, upd (l.getD a ob0).l o z⟩ := by
        rw [List.getD_eq_getElem?_getD, List.getElem?_set_self ha]; rfl
      rw [hx]
      by_cases eb : b = 2 + o
      · subst eb
        rw [if_pos (by omega), if_pos (by rw [obsL_len]; omega)]
        unfold obC obV
        rw [Array.getElem?_toList, Array.getElem?_append_right (by simp), show 2 + o - (#[Value.int .i64 (l.getD a ob0).k, .int .i64 (l.getD a ob0).v] : Array Value).size = o by simp, lnV_get _ _ ho]
        show some (Value.int .u64 (upd (l.getD a ob0).l o z o)) = _
        rw [upd_same]
      · rw [if_neg (by omega), obsL_get _ a b ha hb]
        unfold obC obV
        rw [Array.getElem?_toList, Array.getElem?_toList]
        by_cases h2 : b < 2
        · rw [Array.getElem?_append_left (by simpa using h2), Array.getElem?_append_left (by simpa using h2)]
        · rw [Array.getElem?_append_right (by simp; omega), Array.getElem?_append_right (by simp; omega)]
          show (lnV _)[b - 2]? = (lnV _)[b - 2]?
          rw [lnV_get _ _ (by omega), lnV_get _ _ (by omega)]
          show some (Value.int .u64 (upd (l.getD a ob0).l o z (b - 2))) = _
          rw [upd_other _ _ _ _ (by omega)]
    · rw [if_neg (by omega), obsL_get _ a b ha hb]
      congr 2
      rw [List.getD_eq_getElem?_getD, List.getElem?_set_ne (fun h => e h.symm), List.getD_eq_getElem?_getD]
  · rw [List.getElem?_eq_none (by rw [obsL_len, List.length_set]; omega), List.getElem?_eq_none (by rw [List.length_set, obsL_len]; omega)]
theorem wantO_yes (v : List Int) (own : List Ob) (i d : Nat) (hi : i < 8) (hd : v.getD i 0 % 30 = (d : Int)) (h : d < own.length ∧ (own.getD d ob0).k = 1) :
    obsL (wantO v own (i + 1)) = (obsL (wantO v own i)).set (d * 10 + 2 + i) (.int .u64 (v.getD i 0)) := by
  rw [← obsL_set _ d i (by rw [wantO_len]; exact h.1) hi]
  congr 1
  have e : (rcA v i).d.toNat = d := by show (v.getD i 0 % 30).toNat = d; omega
  have : wantC v own (i + 1) = upd (wantC v own i) d (upd (wantC v own i d) i (v.getD i 0)) := by
    show (if redB (tabO (fromN 2) own) 0 (rcA v i) = true then upd (wantC v own i) (rcA v i).d.toNat (upd (wantC v own i (rcA v i).d.toNat) (rcA v i).o.toNat (rcA v i).v) else wantC v own i) = _
    rw [if_pos ((redB_A v own i d hd).2 h), e]; rfl
  refine List.ext_getElem? fun j => ?_
  by_cases hj : j < own.length
  · have g1 : (wantO v own (i + 1))[j]? = some ⟨(own.getD j ob0).k, (own.getD j ob0).v, wantC v own (i + 1) j⟩ := by unfold wantO; rw [List.getElem?_map, List.getElem?_range hj]; rfl
    rw [g1, this, wantO_get v own i d h.1, List.getElem?_set]
    by_cases ej : d = j
    · subst ej
      rw [if_pos rfl, if_pos (by rw [wantO_len]; exact hj), upd_same]
    · rw [if_neg ej]
      unfold wantO
      rw [List.getElem?_map, List.getElem?_range hj, upd_other _ _ _ _ (fun q => ej q.symm)]; rfl
  · rw [List.getElem?_eq_none (by rw [wantO_len]; omega), List.getElem?_eq_none (by rw [List.length_set, wantO_len]; omega)]

/-! ### the memory on the way -/
theorem bootM_ok {A : Mm} {B : Nat} (h : A.ok B) : (bootM A).ok (B + 8 * A.rs.length) := by
  unfold bootM
  split
  · split
    · rename_i he
      exact ok_mono (redP_ok (t := A.tb) (q := A.sq) (Mm.rs_inU h) (rd_ok h.2.1 he).1 h A.rs.length (Nat.le_refl _)).2.1 (by omega)
    · exact ok_mono h (by omega)
  · exact ok_mono h (by omega)
/-- Made an image, i records behind it. -/
structure AgI (own : List Ob) (v : List Int) (i : Nat) (A : Mm) : Prop where
  su : ∃ D, Su 128 A D
  im : Im 128 2 (tabO (fromN 2) own) (dirO (fromN 2 + cntO own)) (fun i => (own.getD i ob0).l) (fA v i) A
  ok : A.ok (376 + 11 * i)
theorem again_fmt (l : List Ob) (L : Nat) (hL : L ≤ 30) (hin : ∀ x ∈ l, ObIn x) (v : List Int) : (fmtP (Mm.new 128 fun _ _ => 0) 2 (ownO l L)).2 = 0 ∧ AgI (ownO l L) v 0 (fmtP (Mm.new 128 fun _ _ => 0) 2 (ownO l L)).1 := by
  have hlen : (ownO l L).length ≤ 30 := by unfold ownO; rw [List.length_map, List.length_take]; omega
  have hc := cnt_le (ownO l L)
  obtain ⟨F1, F2, F3⟩ := new_fmt 128 2 (by decide) (by decide) (ownO l L) (ownO_fmt l L hL) (by unfold fromN; omega)
  have KF := fmtP_okt (new0_ok 128 (by decide) (by decide)) 2 (ownO l L) (fun j i => by
    by_cases hj : j < (ownO l L).length
    · have : (ownO l L).getD j ob0 ∈ ownO l L := by rw [List.getD_eq_getElem?_getD, List.getElem?_eq_getElem hj]; exact List.getElem_mem hj
      exact (ownO_in hin L _ this).2.2 i
    · rw [List.getD_eq_getElem?_getD, List.getElem?_eq_none (by omega)]; show InU 0; exact ⟨by decide, by decide⟩)
  exact ⟨F1, F2, F3, ok_mono KF (by unfold fromN; omega)⟩
theorem AgI.next {own : List Ob} {v : List Int} {i : Nat} {A : Mm} (h : AgI own v i A) (hi : i < 4) (hv : InU (v.getD i 0)) : A.appE ((i % 2 : Nat) : Int) 0 (rcA v i) = 0 ∧ AgI own v (i + 1) (A.appZ ((i % 2 : Nat) : Int) 0 (rcA v i)) := by
  obtain ⟨D, hD⟩ := h.su
  have e : 2 + 4 * (i % 2) + i / 2 = atA i := rfl
  obtain ⟨a1, a2, a3⟩ := h.im.app hD (k := i % 2) (j := i / 2) (by omega) (by omega) 0 (mayR_A v i hi hv.1) (fA_no v i hi) (fA_busy v i hi)
  exact ⟨a1, ⟨_, a2⟩, a3, ok_mono (ok_appZ h.ok _ 0 _ ⟨hv.1, hv.2⟩) (by omega)⟩
/-- An image that may have lost its power, and came back or not. -/
structure AgB (own : List Ob) (v : List Int) (n B : Nat) (A : Mm) : Prop where
  im : Im 128 2 (tabO (fromN 2) own) (dirO (fromN 2 + cntO own)) (fun i => (own.getD i ob0).l) (fA v n) A
  ok : A.ok B
theorem AgI.fused {own : List Ob} {v : List Int} {n : Nat} {A : Mm} (h : AgI own v n A) (hn : n ≤ 4) (z : Int) (hz : In64 z) : AgB own v n 420 (A.fused z) ∧ (A.fused z).on = true := by
  obtain ⟨D, hD⟩ := h.su
  exact ⟨⟨h.im.fused z, ok_fused (ok_mono h.ok (by omega)) z hz⟩, hD.calm.1⟩
theorem AgB.rs {own : List Ob} {v : List Int} {n B : Nat} {A : Mm} (h : AgB own v n B A) (hn : n ≤ 4) (hon : A.on = true) : A.rs = rsA v n ∧ A.rs.length = n := by
  have e := (h.im.scanned hon).trans (rsA_sort v n hn)
  exact ⟨e, by rw [e, rsA_len]⟩
theorem AgB.crash {own : List Ob} {v : List Int} {n B : Nat} {A : Mm} (h : AgB own v n B A) (keep : List Int) : AgB own v n B (A.crash keep) ∧ Calm (A.crash keep) := ⟨⟨h.im.crash keep, ok_crash h.ok keep⟩, rfl, rfl⟩
theorem AgB.booted {own : List Ob} {v : List Int} {n B : Nat} {A : Mm} (h : AgB own v n B A) (hn : n ≤ 4) (hon : A.on = true) : AgB own v n (B + 32) (bootM A) :=
  ⟨h.im.booted, ok_mono (bootM_ok h.ok) (by have := (h.rs hn hon).2; omega)⟩
theorem AgB.boot {own : List Ob} {v : List Int} {n B : Nat} {A : Mm} (h : AgB own v n B A) (hn : n ≤ 4) (hl : own.length ≤ 30) (hc : Calm A) :
    bootE A = 0 ∧ bootN A = (n : Int) + 1 ∧ A.rs.length = n ∧ Ic 128 2 (tabO (fromN 2) own) (dirO (fromN 2 + cntO own)) (wantC v own n) 0 (bootS A) (bootM A) := by
  have hr : A.rs = rsA v n := (h.im.scanned hc.1).trans (rsA_sort v n hn)
  have hrl : A.rs.length = n := by rw [hr, rsA_len]
  obtain ⟨b1, b2, b3, b4, b5, b6⟩ := h.im.boot hc (by rw [hrl]; unfold fromN; omega)
  refine ⟨b1, ?_, hrl, ?_⟩
  · unfold bootN
    rw [hr, b6]
    rw [rsA_len, rsA_gr v n n (Nat.le_refl _)]
  · rw [hrl, hr, wantC_red v own n n (Nat.le_refl _)] at b3
    exact b3
theorem Ic.told {own : List Ob} {v : List Int} {n : Nat} {S : Sto} {A : Mm} {d : Nat → Int} {m : Nat} (h : Ic 128 2 (tabO (fromN 2) own) d (wantC v own n) m S A) (hk : ∀ x ∈ own, x.k ≠ 0) (i : Nat) (hi : i < 49) :
    (i < own.length → getT S A (i : Int) = .tuple #[.agg (obV ((wantO v own n).getD i ob0).k ((wantO v own n).getD i ob0).v ((wantO v own n).getD i ob0).l), .int .i64 0]) ∧ (own.length ≤ i → getT S A (i : Int) = .tuple #[.agg (obV 0 0 fun _ => 0), .int .i64 30]) := by
  obtain ⟨h1, h2⟩ := h.get i hi
  constructor
  · intro hl
    have ek : (tabO (fromN 2) own i).k = (own.getD i ob0).k ∧ (tabO (fromN 2) own i).v = (own.getD i ob0).v := by unfold tabO; rw [if_pos hl]; exact ⟨rfl, rfl⟩
    have hne : (tabO (fromN 2) own i).k ≠ 0 := by
      rw [ek.1]
      exact hk _ (by rw [List.getD_eq_getElem?_getD, List.getElem?_eq_getElem hl]; exact List.getElem_mem hl)
    obtain ⟨g1, g2⟩ := h1 hne
    unfold getT
    rw [g1, g2, ek.1, ek.2, wantO_get v own n i hl]
  · intro hl
    have ek : (tabO (fromN 2) own i).k = 0 := by unfold tabO; rw [if_neg (by omega)]; rfl
    obtain ⟨g1, g2⟩ := h2 ek
    unfold getT
    rw [g1, g2]

end Go.Proofs.YtiafhcgaikapcaaGreat


/-
  For every row of objects, row of words and time at which the power goes off, ReviveAgain returns true and leaves its arguments as they were: an image comes back as it is, with all that was journalled behind it, however often the power goes off on the way. No condition.
-/
namespace Go.Proofs.YtiafhcgaikapcaaGreat.reviveAgain
open Go.Proofs.YtiafhcgaikapcaaGreat
open Go.ChangeShapes Go.WideShapes Go.ChangeAt Go.RowKit Go.Joins Go.Deep
set_option maxRecDepth 100000
set_option linter.unusedVariables false
set_option linter.unusedSimpArgs false

theorem block_lt {w : World} {g : Nat} {o : Obj} (h : w.heap[g]? = some o) : g < w.heap.size := by
  rcases Nat.lt_or_ge g w.heap.size with q | q
  · exact q
  · rw [Array.getElem?_eq_none q] at h; cases h
theorem obV_set0 (k v k' : Int) (f : Nat → Int) : (obV k v f).setIfInBounds 0 (.int .i64 k') = obV k' v f := by kernel_rfl
theorem obV_set1 (k v v' : Int) (f : Nat → Int) : (obV k v f).setIfInBounds 1 (.int .i64 v') = obV k v' f := by kernel_rfl
/-- The row of objects is made an image. -/
theorem QSt.format {W w : World} {m : Nat} {St : Mm → World → (Nat → Prop) → Prop} {A : Mm} {G : Nat → Prop} {g n cap : Nat} {l : List Ob} (M : MemI W m St) (h : QSt W (St A) (ObSt W.heap.size (.slice (some ⟨g, 0, none⟩) n cap) l) w G) (hn : l.length = n) (hA : A.ok 300) (c : Int) (hl : l.length ≤ 1000) (hin : ∀ x ∈ l, ObIn x) :
    Calls Tryz.prog 52 #[.pointer (some ⟨m, 0, none⟩), .int .i64 c, .slice (some ⟨g, 0, none⟩) n cap] w (Done (fun w G => QSt W (St (fmtP A c l).1) (ObSt W.heap.size (.slice (some ⟨g, 0, none⟩) n cap) l) w G) w G (.int .i64 (fmtP A c l).2)) := by
  subst hn
  obtain ⟨C, s1, ⟨c1, hrow⟩, s3, s4⟩ := h
  obtain ⟨p, cap', e, _, hat⟩ := RowO.at hrow
  cases e
  refine (format_any M s1 hA c (some ⟨g, 0, none⟩) cap l hl hin (fun w' hk hs => hat w' fun k hk' => hs k (Or.inr ((c1 k).2 hk')))).mono fun e w' hd => hd.q (obSt_loc _ _ _) ⟨c1, hrow⟩ s3 s4
theorem QSt.append {W w : World} {m : Nat} {A : Mm} {G : Nat → Prop} {R R' : World → (Nat → Prop) → Prop} (hR : Loc R) (hR' : Loc R') (h : QSt W (fun w G => QSt W (fun w G => Has W w G m A) R w G) R' w G) (hok : A.ok 900) (core seq : Int) (r : Rc) (hr : r.ok) :
    Calls Tryz.prog 62 #[.pointer (some ⟨m, 0, none⟩), .int .i64 core, .int .i64 seq, .agg (rv r)] w (Done (fun w G => QSt W (fun w G => QSt W (fun w G => Has W w G m (A.appZ core seq r)) R w G) R' w G) w G (.int .i64 (A.appE core seq r))) :=
  QSt.via hR' h fun G h => QSt.via hR h fun G h => (h.appR hok core seq r hr).mono fun e w' hd => hd
theorem QSt.fuse {W w : World} {m : Nat} {A : Mm} {G : Nat → Prop} {R R' : World → (Nat → Prop) → Prop} (hR : Loc R) (hR' : Loc R') (h : QSt W (fun w G => QSt W (fun w G => Has W w G m A) R w G) R' w G) (z : Int) :
    Calls Tryz.prog 18 #[.pointer (some ⟨m, 0, none⟩), .int .i64 z] w (Done (fun w G => QSt W (fun w G => QSt W (fun w G => Has W w G m (A.fused z)) R w G) R' w G) w G (.tuple #[])) :=
  QSt.via hR' h fun G h => QSt.via hR h fun G h => (h.fuse z).mono fun e w' hd => hd
theorem QSt.crash {W w : World} {m : Nat} {A : Mm} {G : Nat → Prop} {R R' : World → (Nat → Prop) → Prop} (hR : Loc R) (hR' : Loc R') (h : QSt W (fun w G => QSt W (fun w G => Has W w G m A) R w G) R' w G) (hok : A.ok 1000) (a : Option Addr) (keep : List Int) (cap : Nat) (hr : ∀ z ∈ keep, In64 z) (hl : keep.length ≤ 9223372036854775807) (hi : IntsAt W a keep) :
    Calls Tryz.prog 44 #[.pointer (some ⟨m, 0, none⟩), .slice a keep.length cap] w (Done (fun w G => QSt W (fun w G => QSt W (fun w G => Has W w G m (A.crash keep)) R w G) R' w G) w G (.tuple #[])) :=
  QSt.via hR' h fun G h => QSt.via hR h fun G h => (h.crash_arg hok a keep cap hr hl hi).mono fun e w' hd => hd

/-- It comes back or not: the memory is what it is. -/
theorem boot_drop {W w : World} {m : Nat} {St : Mm → World → (Nat → Prop) → Prop} {A : Mm} {G : Nat → Prop} (M : MemI W m St) (h : St A w G) (B : Nat) (hA : A.ok B) (hB : B + 8 * A.rs.length ≤ 800) :
    Calls Tryz.prog 56 #[.pointer (some ⟨m, 0, none⟩)] w fun e w' => ∃ v, e = .returned v ∧ St (bootM A) w' G ∧ Same G w w' := by
  refine (imboot_any M h B hA hB).mono fun e w' hq => ?_
  unfold BoPost at hq
  split at hq
  · obtain ⟨b, he, h1, h2⟩ := hq
    exact ⟨_, he, (M.stay _).ls _ _ _ h1.st (fun k hk => Or.inl hk), h2⟩
  · exact ⟨_, hq⟩
/-- It comes back; the store is of no more use. -/
theorem boot_once {W w : World} {m : Nat} {St : Mm → World → (Nat → Prop) → Prop} {A : Mm} {G : Nat → Prop} (M : MemI W m St) (h : St A w G) (B : Nat) (hA : A.ok B) (hB : B + 8 * A.rs.length ≤ 800) (hE : bootE A = 0) :
    Calls Tryz.prog 56 #[.pointer (some ⟨m, 0, none⟩)] w fun e w' => ∃ b f0 f1 f2 f3 a, e = .returned (.tuple #[.agg (imgV (some ⟨b, 0, none⟩) f0 f1 f2 f3 a (bootN A)), .int .i64 0]) ∧ St (bootM A) w' G ∧ Same G w w' := by
  refine (imboot_any M h B hA hB).mono fun e w' hq => ?_
  unfold BoPost at hq
  rw [if_pos hE] at hq
  obtain ⟨b, he, h1, h2⟩ := hq
  exact ⟨b, _, _, _, _, _, he, (M.stay _).ls _ _ _ h1.st (fun k hk => Or.inl hk), h2⟩
theorem boot_last {W w : World} {m : Nat} {St : Mm → World → (Nat → Prop) → Prop} {A : Mm} {G : Nat → Prop} (M : MemI W m St) (h : St A w G) (B : Nat) (hA : A.ok B) (hB : B + 8 * A.rs.length ≤ 800) (hE : bootE A = 0) :
    Calls Tryz.prog 56 #[.pointer (some ⟨m, 0, none⟩)] w fun e w' => ∃ b f0 f1 f2 f3 a, e = .returned (.tuple #[.agg (imgV (some ⟨b, 0, none⟩) f0 f1 f2 f3 a (bootN A)), .int .i64 0]) ∧ SHas W m b St (bootS A) (bootM A) w' G ∧ Same G w w' := by
  refine (imboot_any M h B hA hB).mono fun e w' hq => ?_
  unfold BoPost at hq
  rw [if_pos hE] at hq
  obtain ⟨b, he, h1, h2⟩ := hq
  exact ⟨b, _, _, _, _, _, he, h1, h2⟩
set_option maxHeartbeats 16000000 in
theorem walkA (W : World) (al : Option Addr) (l : List Ob) (cl : Nat) (hll : l.length ≤ 9223372036854775807) (hob : ObsAt W al l) (hin : ∀ x ∈ l, ObIn x) (av : Option Addr) (zs : List Int) (cv : Nat) (hzl : zs.length ≤ 9223372036854775807) (hza : RowAt W .u64 av zs) (hzu : ∀ z ∈ zs, InU z)
    (z : Int) (ak : Option Addr) (keep : List Int) (ck : Nat) (hz : In64 z) (hka : IntsAt W ak keep) (hki : ∀ z ∈ keep, In64 z) (hkl : keep.length ≤ 9223372036854775807) :
    Calls Tryz.prog 7 #[.slice al l.length cl, .slice av zs.length cv, .agg #[.int .i64 z, .slice ak keep.length ck]] W fun e w' => e = .returned (.bool true) ∧ Below W.heap.size W w' := by
  have HOB := hide hob
  have HIN := hide hin
  have HZA := hide hza
  have HZU := hide hzu
  have HZ := hide hz
  have HKA := hide hka
  have HKI := hide hki
  have HLL := hide hll
  have HZL := hide hzl
  have HKL := hide hkl
  obtain ⟨PB, hPB⟩ : ∃ P, P = Obj.cells #[.int .i64 z, .slice ak keep.length ck] 103 (0, 0) := ⟨_, rfl⟩
  have HPB := hide hPB
  have K0 := hide ((Keeps.refl (fun _ => False) W).alloc PB)
  obtain ⟨g1, hg1⟩ : ∃ g, g = W.heap.size := ⟨_, rfl⟩
  have B0 := hide (heap_new W PB)
  rw [← hg1] at B0
  clear hob hin hza hzu hz hka hki
  go_enter Tryz.func7, Tryz.ntmps7
  go_upto_region 1 with fail
  rw [← hPB, ← hg1]
  clear hg1 hPB hll hzl hkl
  generalize W.alloc PB = w0 at *
  go_wp2_with fail
  refine (ishown_any w0).mono ?_
  rintro e w1 ⟨rfl, hk⟩
  have K1 := hide ((unhide K0).trans' hk)
  have B1 := hide ((hk.block g1 (block_lt (unhide B0)) id).trans (unhide B0))
  clear hk K0 B0
  go_wp2_with fail
  refine (new_any w1 128 (by decide) (by decide)).mono ?_
  intro e w2 hm
  obtain ⟨m, rfl, h0, hs0⟩ := made_has W (unhide K1) hm (fun k => k = g1) (fun k hk => by rw [hk]; exact block_lt (unhide B1))
  have M := hide (Has.memI W m)
  obtain ⟨A0, hA0⟩ : ∃ A, A = Mm.new 128 (fun _ _ => 0) := ⟨_, rfl⟩
  rw [← hA0] at h0
  have HA0 := hide hA0
  have HK0 : Hid (A0.ok 0) := by rw [hA0]; exact new0_ok 128 (by decide) (by decide)
  have B2 := hide ((hs0 g1 rfl).trans (unhide B1))
  have Q0 := hide (QSt.row0 ((unhide M).stay A0) h0)
  have B3 := hide (((unhide Q0).2 g1 rfl).trans (unhide B2))
  have Q1 := hide (unhide Q0).1
  clear hm h0 hA0 hs0 K1 B1 B2 Q0
  go_upto_region 6 with fail
  obtain ⟨V0, hV0⟩ : ∃ V, V = Value.slice (some ⟨w2.heap.size, 0, none⟩) 0 0 := ⟨_, rfl⟩
  have V0n : V0 ≠ .slice none 0 0 := by rw [hV0]; intro h; cases h
  rw [← hV0] at Q1 ⊢
  clear hV0
  generalize w2.alloc (.cells #[] 88) = w3 at *
  obtain ⟨L, hL⟩ : ∃ L, L = min l.length 30 := ⟨_, rfl⟩
  have hLl : L ≤ l.length := by omega
  have hL30 : L ≤ 30 := by omega
  go_upto_block 0 with fail
  go_cut [10, 11] from 35 (fun s10 s11 wx => s10 ≠ .slice none 0 0 ∧ QSt W (fun w G => Has W w G m A0) (ObSt W.heap.size s10 (ownO l L)) wx (fun k => k = g1) ∧ wx.heap[g1]? = some PB)
  case first =>
    go_wp2_with fail
    go_loopw [10, 11] (fun vv i wr => ∃ k : Nat, k ≤ L ∧ i = .int .i64 k ∧ vv ≠ .slice none 0 0 ∧ QSt W (fun w G => Has W w G m A0) (ObSt W.heap.size vv (ownO l k)) wr (fun k => k = g1) ∧ wr.heap[g1]? = some PB) (fun _ i _ => 30 - (intOf i).toNat)
    case atStart => exact ⟨0, by omega, rfl, V0n, unhide Q1, unhide B3⟩
    case round =>
      clear Q1 B3 V0n
      obtain ⟨k, hk, rfl, hvn, hq, hb⟩ := hrel
      have Q := hide hq
      have B := hide hb
      have VN := hide hvn
      clear hq hb hvn
      have hl63 := unhide HLL
      obtain ⟨V, hV⟩ : ∃ V, V = u10 := ⟨_, rfl⟩
      subst hV
      by_cases hlt : k < L
      · skip
        have hlt' : (k : Int) < (l.length : Int) := by omega
        have hlt30 : (k : Int) < 30 := by omega
        have hk0 : (0 : Int) ≤ (k : Int) := by omega
        obtain ⟨ga, oa, rfl, hrg⟩ := (unhide HOB).range k (by omega)
        have hn1 := ownO_next l k (by omega)
        have ho1 := ownO_len l k (by omega)
        obtain ⟨x, hx⟩ : ∃ x, x = l.getD k ob0 := ⟨_, rfl⟩
        have hxin : ObIn x := by
          rw [hx, List.getD_eq_getElem?_getD, List.getElem?_eq_getElem (show k < l.length by omega)]
          exact unhide HIN _ (List.getElem_mem _)
        rw [← hx] at hrg hn1
        have HN1 := hide hn1
        have HO1 := hide ho1
        clear hx hn1 ho1
        obtain ⟨xk, xv, xf⟩ := x
        have HXI := hide hxin
        clear hxin
        have T1 := hide (QSt.stay ((unhide M).stay A0) (obSt_loc W.heap.size V (ownO l k)))
        have RG := hide (range_keeps ((unhide T1).sz _ _ (unhide Q)) hrg)
        have s10 := s10_obC ⟨xk, xv, xf⟩
        have s10v : (Tryz.prog.info? 88).map (·.size) = some (obV xk xv xf).size := by rw [obV_size]; kernel_rfl
        have ZL := hide zero_ob
        have X10 := hide (obV_one xk xv xf)
        have SZ : Hid ((obV 0 0 fun _ => 0).size = (obV xk xv xf).size) := by show _ = _; rw [obV_size, obV_size]
        have EC : Hid ((obC ⟨xk, xv, xf⟩).toArray = obV xk xv xf) := by show _ = _; unfold obC; exact Array.toArray_toList
        generalize (obV 0 0 fun _ => 0) = ZV at *
        have O1 := hide ((Held.start (unhide T1) (unhide Q)).alloc (unhide T1) (.cells (obV xk xv xf) 88))
        clear hrg
        go_upto_region 10 with (first | (with_reducible refine wpList_load_mid (by with_unfolding_all rfl) 88 _ (by with_unfolding_all rfl) ga (oa + k * 10) (by with_unfolding_all rfl) (obC ⟨xk, xv, xf⟩) _ (unhide RG) Tryz.underlying88 (by with_unfolding_all rfl) s10 ?_; rw [unhide EC]) | (with_reducible refine wpList_allocZ (by with_unfolding_all rfl) 88 (by with_unfolding_all rfl) ZV (unhide ZL) ?_) | (with_reducible refine wpList_store_row (by with_unfolding_all rfl) 88 _ _ (by with_unfolding_all rfl) wr.heap.size (obV xk xv xf) (by with_unfolding_all rfl) (by with_unfolding_all rfl) 88 ZV (heap_new wr _) s10v (unhide SZ) (unhide X10) ?_; rw [setRow_alloc]))
        obtain ⟨g, hg⟩ : ∃ g, g = wr.heap.size := ⟨_, rfl⟩
        rw [← hg] at O1 ⊢
        clear hg s10 s10v ZL X10 SZ EC RG
        generalize wr.alloc (.cells (obV xk xv xf) 88) = w4 at *
        have c0 : w4.cell? ⟨g, 0, none⟩ = some (.int .i64 xk) := by rw [cell_of_block ((unhide O1).at g (.cells (obV xk xv xf) 88) (by simp))]; rfl
        have f0 : w4.frozen? ⟨g, 0, none⟩ = false := unfrozen_of_block ((unhide O1).at g (.cells (obV xk xv xf) 88) (by simp)) _
        have kb := kindN_lt xk 4 (by decide)
        have CK := hide (ikind_any xk (unhide HXI).1 4 (by decide) (by decide) w4)
        have HN2 : Hid (ownO l (k + 1) = ownO l k ++ [⟨1 + (kindN xk 4 : Nat), (kindN xv 100 : Nat), xf⟩]) := unhide HN1
        clear HN1
        generalize kindN xk 4 = kk at *
        go_wp2_with fail
        refine (unhide CK).mono ?_
        rintro e w4 ⟨rfl, rfl⟩
        clear CK
        go_upto_region 11 with fail
        have O2 := hide ((unhide O1).cellHd (unhide T1) (by simp) 0 (.int .i64 (1 + (kk : Int))))
        rw [obV_set0] at O2
        clear c0 f0 kb O1
        generalize w4.setCell ⟨g, 0, none⟩ (.int .i64 (1 + (kk : Int))) = w5 at *
        have c1 : w5.cell? ⟨g, 1, none⟩ = some (.int .i64 xv) := by rw [cell_of_block ((unhide O2).at g (.cells (obV (1 + (kk : Int)) xv xf) 88) (by simp))]; rfl
        have f1 : w5.frozen? ⟨g, 1, none⟩ = false := unfrozen_of_block ((unhide O2).at g (.cells (obV (1 + (kk : Int)) xv xf) 88) (by simp)) _
        have kb := kindN_lt xv 100 (by decide)
        have CK := hide (ikind_any xv (unhide HXI).2.1 100 (by decide) (by decide) w5)
        generalize kindN xv 100 = jj at *
        go_wp2_with fail
        refine (unhide CK).mono ?_
        rintro e w5 ⟨rfl, rfl⟩
        clear CK
        go_upto_region 12 with fail
        have O3 := hide ((unhide O2).cellHd (unhide T1) (by simp) 1 (.int .i64 (jj : Int)))
        rw [obV_set1] at O3
        clear c1 f1 kb O2
        generalize w5.setCell ⟨g, 1, none⟩ (.int .i64 (jj : Int)) = w6 at *
        have K6 := hide ((unhide O3).at g (.cells (obV (1 + (kk : Int)) jj xf) 88) (by simp))
        have s10 : (Tryz.prog.info? 88).map (·.size) = some (obV (1 + (kk : Int)) jj xf).size := by rw [obV_size]; kernel_rfl
        have O4 := (unhide O3).alloc (unhide T1) (.cells (obV (1 + (kk : Int)) jj xf) 88)
        have Q4 := hide ((unhide T1).ls _ _ (fun k => k = g1) O4.st (fun k hk => Or.inl hk))
        have B4 := hide ((O4.2.2 g1 rfl).trans (unhide B))
        have OA4 : Hid (ObsAt (w6.alloc (.cells (obV (1 + (kk : Int)) jj xf) 88)) (some ⟨w6.heap.size, 0, none⟩) [⟨1 + (kk : Int), jj, xf⟩]) := Or.inr ⟨w6.heap.size, 0, rfl, fun i hi j u hu => by
          obtain rfl : i = 0 := by simpa using hi
          rw [cell_of_block (O4.at w6.heap.size _ List.mem_cons_self), Nat.zero_mul, Nat.add_zero, Nat.zero_add, ← Array.getElem?_toList]
          exact hu⟩
        have hlen4 : (ownO l k).length + 1 < 1000 := by rw [unhide HO1]; omega
        have HN := hide hlen4
        clear O4 O3 Q B hlen4
        go_upto_region 8 with (first | (with_reducible refine wpList_load_row (by with_unfolding_all rfl) 88 _ (by with_unfolding_all rfl) g (by with_unfolding_all rfl) _ _ _ _ (unhide K6) Tryz.underlying88 (by with_unfolding_all rfl) s10 ?_) | (with_reducible refine wpList_obj1 (by with_unfolding_all rfl) (.tmp 59) (by with_unfolding_all rfl) (1 + (kk : Int)) jj xf (by with_unfolding_all rfl) ?_) | (at_builtin; refine push_obs ((unhide M).stay A0) [⟨1 + (kk : Int), jj, xf⟩] w6.heap.size 1 (by with_unfolding_all rfl) (.tmp 58) (.tmp 60) (by with_unfolding_all rfl) (by with_unfolding_all rfl) (unhide Q4) (by with_unfolding_all rfl) (unhide OA4) (unhide HN) ?_; intro V' w7 q1 q2 q3))
        have Q7 := hide q1
        rw [← unhide HN2] at Q7
        have B7 := hide ((q2 g1 rfl).trans (unhide B4))
        have V7 := hide (q3 (unhide VN))
        clear q1 q2 q3 Q4 B4 OA4 HN HN2 K6 s10 VN HO1
        go_wp2_with fail
        go_roundw
        case rel => exact ⟨k + 1, by omega, by go_num, unhide V7, unhide Q7, unhide B7⟩
        case measure => simp [intOf]; omega
      · obtain rfl : k = L := by omega
        by_cases hkl : k < l.length
        · have hkl' : (k : Int) < (l.length : Int) := by omega
          have hk30 : ¬ ((k : Int) < 30) := by omega
          go_wp2_with fail
          go_meet
          case rel => exact ⟨unhide VN, unhide Q, unhide B⟩
        · have hkl' : ¬ ((k : Int) < (l.length : Int)) := by omega
          go_wp2_with fail
          go_meet
          case rel => exact ⟨unhide VN, unhide Q, unhide B⟩
  case rest =>
    clear Q1 B3 V0n
    obtain ⟨hvn, hq, hb⟩ := hcut
    have Q := hide hq
    have B := hide hb
    have VN := hide hvn
    clear hq hb hvn
    obtain ⟨own, hown⟩ : ∃ o, o = ownO l L := ⟨_, rfl⟩
    have hol := ownO_len l L hLl
    have hoin := ownO_in (unhide HIN) L
    have hok := ownO_k (l := l) L
    have AG := again_fmt l L hL30 (unhide HIN) zs
    rw [← hown] at hol hoin hok AG Q
    rw [← unhide HA0] at AG
    have HOL := hide hol
    have HOI := hide hoin
    have HOK := hide hok
    obtain ⟨go, cap, hV, _, _⟩ := (unhide Q).obsAt (unhide VN)
    subst hV
    have CF := QSt.format (unhide M) (unhide Q) rfl (ok_mono (unhide HK0) (by omega)) 2 (by omega) hoin
    rw [AG.1] at CF
    have AG0 := hide AG.2
    obtain ⟨A1, hA1⟩ : ∃ A, A = (fmtP A0 2 own).1 := ⟨_, rfl⟩
    rw [← hA1] at CF AG0
    have CF2 := hide CF
    have hol30 : own.length ≤ 30 := by omega
    clear CF AG hA1 hol hoin hok hown VN HOB HLL HK0 HA0
    go_wp2_with fail
    refine (unhide CF2).mono ?_
    rintro e w8 ⟨rfl, h1, h2⟩
    have B8 := hide ((h2 g1 rfl).trans (unhide B))
    have R1 := hide (obSt_loc W.heap.size (.slice (some ⟨go, 0, none⟩) own.length cap) own)
    have M1 := hide ((unhide M).q (unhide R1))
    have R0 := QSt.row0 ((unhide M1).stay A1) h1
    have OA : Hid (ObsAt (w8.alloc (.cells #[] 88)) (some ⟨go, 0, none⟩) own) := by
      obtain ⟨C, s1, _⟩ := R0.1
      obtain ⟨g', cap', e, _, h⟩ := s1.obsAt (by simp)
      cases e
      exact h
    have Q8 := hide R0.1
    have B9 := hide ((R0.2 g1 rfl).trans (unhide B8))
    have hlen : ([] : List Ob).length + own.length < 1000 := by simp; omega
    clear h1 h2 R0 Q B B8 CF2
    go_upto_region 16 with (at_builtin; refine push_obs ((unhide M1).stay A1) own go cap (by with_unfolding_all rfl) (.tmp 66) (.tmp 67) (by with_unfolding_all rfl) (by with_unfolding_all rfl) (unhide Q8) (by with_unfolding_all rfl) (unhide OA) hlen ?_; intro V9 w9 q1 q2 q3)
    have VN := q3 (by simp)
    have B := hide ((q2 g1 rfl).trans (unhide B9))
    have e0 : ([] : List Ob) ++ own = wantO zs own 0 := (wantO_zero zs own).symm
    rw [e0] at q1
    clear e0
    obtain ⟨gw, capw, hV, hgw, _⟩ := q1.obsAt VN
    rw [wantO_len] at hV
    subst hV
    have Q := hide q1
    clear q1 q2 q3 Q8 B9 OA hlen VN
    obtain ⟨N, hN⟩ : ∃ N, N = min zs.length 4 := ⟨_, rfl⟩
    have hNl : N ≤ zs.length := by omega
    have hN4 : N ≤ 4 := by omega
    go_upto_block 2 with fail
    go_cut [14, 15] from 69 (fun s14 s15 wx => ∃ A : Mm, AgI own zs N A ∧ QSt W (fun w G => QSt W (fun w G => Has W w G m A) (ObSt W.heap.size (.slice (some ⟨go, 0, none⟩) own.length cap) own) w G) (ObSt W.heap.size (.slice (some ⟨gw, 0, none⟩) own.length capw) (wantO zs own N)) wx (fun k => k = g1) ∧ wx.heap[g1]? = some PB)
    case first =>
      go_wp2_with fail
      go_loopw [14] (fun i wr => ∃ (j : Nat) (A : Mm), j ≤ N ∧ i = .int .i64 j ∧ AgI own zs j A ∧ QSt W (fun w G => QSt W (fun w G => Has W w G m A) (ObSt W.heap.size (.slice (some ⟨go, 0, none⟩) own.length cap) own) w G) (ObSt W.heap.size (.slice (some ⟨gw, 0, none⟩) own.length capw) (wantO zs own j)) wr (fun k => k = g1) ∧ wr.heap[g1]? = some PB) (fun i _ => 4 - (intOf i).toNat)
      case atStart => exact ⟨0, A1, by omega, rfl, unhide AG0, unhide Q, unhide B⟩
      case round =>
        clear Q B AG0
        obtain ⟨j, A, hj, rfl, ha, hq, hb⟩ := hrel
        have AG := hide ha
        have Q := hide hq
        have B := hide hb
        clear ha hq hb
        have hz63 := unhide HZL
        by_cases hlt : j < N
        · skip
          have hlt' : (j : Int) < (zs.length : Int) := by omega
          have hlt4 : (j : Int) < 4 := by omega
          have hj0 : (0 : Int) ≤ (j : Int) := by omega
          obtain ⟨ga, oa, rfl, hrg⟩ : ∃ b off, av = some ⟨b, off, none⟩ ∧ ∀ i, i < zs.length → W.cell? ⟨b, off + i, none⟩ = some (.int .u64 (zs.getD i 0)) := by
            rcases unhide HZA with h | h
            · rw [h] at hNl; simp at hNl; omega
            · exact h
          have hrj := hrg j (by omega)
          have HRJ := hide hrj
          have hzin : InU (zs.getD j 0) := unhide HZU _ (by rw [List.getD_eq_getElem?_getD, List.getElem?_eq_getElem (show j < zs.length by omega)]; exact List.getElem_mem _)
          obtain ⟨d, hd⟩ : ∃ d : Nat, zs.getD j 0 % 30 = (d : Int) := ⟨(zs.getD j 0 % 30).toNat, by have := Int.emod_nonneg (zs.getD j 0) (show (30 : Int) ≠ 0 by decide); omega⟩
          have hd30 : (d : Int) < 30 := by have := Int.emod_lt_of_pos (zs.getD j 0) (show (0 : Int) < 30 by decide); omega
          have NX := (unhide AG).next (by omega) hzin
          have T2 := hide (QSt.stay ((unhide M1).stay A) (obSt_loc W.heap.size (.slice (some ⟨gw, 0, none⟩) own.length capw) (wantO zs own j)))
          have r0 : wr.cell? ⟨ga, oa + j, none⟩ = some (.int .u64 (zs.getD j 0)) := ((unhide T2).sz _ _ (unhide Q)).cellOf hrj id
          have CA := QSt.append (unhide R1) (obSt_loc _ _ _) (unhide Q) (ok_mono (unhide AG).ok (by omega)) ((j % 2 : Nat) : Int) 0 (rcA zs j) hzin
          rw [NX.1] at CA
          have WN := hide (wantO_no zs own j d hd)
          have WY := hide (wantO_yes zs own j d (by omega) hd)
          obtain ⟨z0, hz0⟩ : ∃ y, y = zs.getD j 0 := ⟨_, rfl⟩
          have hrc : rcA zs j = ⟨(j : Int) + 1, (d : Int), (j : Int), z0⟩ := by
            unfold rcA; rw [hd, hz0]
          obtain ⟨A2, hA2⟩ : ∃ X, X = A.appZ ((j % 2 : Nat) : Int) 0 (rcA zs j) := ⟨_, rfl⟩
          have AG2 := hide NX.2
          rw [← hA2] at CA AG2
          rw [hrc] at CA
          have CA2 : Hid (Calls Tryz.prog 62 #[.pointer (some ⟨m, 0, none⟩), .int .i64 ((j % 2 : Nat) : Int), .int .i64 0, .agg #[.int .i64 ((j : Int) + 1), .int .i64 (d : Int), .int .i64 (j : Int), .int .u64 z0]] wr _) := CA
          rw [← hz0] at r0 hd hzin WY HRJ
          have HD := hide hd
          have hz1 := hzin.1
          have hz2 := hzin.2
          have hrem : z0.tmod 30 = (d : Int) := by rw [Int.tmod_eq_emod_of_nonneg hz1]; exact hd
          have hjm : (j : Int).tmod 2 = ((j % 2 : Nat) : Int) := by rw [Int.tmod_eq_emod_of_nonneg hj0]; omega
          clear NX hd hrg hrj hzin CA hA2 hz0 hrc AG
          go_upto_region 20 with fail
          go_wp2_with fail
          refine (unhide CA2).mono ?_
          rintro e w10 ⟨rfl, h1, h2⟩
          have Q10 := hide h1
          have B10 := hide ((h2 g1 rfl).trans (unhide B))
          have T3 := hide (QSt.stay ((unhide M1).stay A2) (obSt_loc W.heap.size (.slice (some ⟨gw, 0, none⟩) own.length capw) (wantO zs own j)))
          clear h1 h2 CA2 Q B T2 r0
          by_cases hdl : d < own.length
          · have hdl' : (d : Int) < (own.length : Int) := by omega
            have c0 : w10.cell? ⟨go, d * 10, none⟩ = some (.int .i64 (own.getD d ob0).k) := by
              obtain ⟨C, s1, _⟩ := unhide Q10
              exact (s1.cellO rfl d 0 hdl (by decide)).1
            by_cases hk1 : (own.getD d ob0).k = 1
            · have WY2 := hide (unhide WY ⟨hdl, hk1⟩)
              have r0 : w10.cell? ⟨ga, oa + j, none⟩ = some (.int .u64 z0) := ((unhide T3).sz _ _ (unhide Q10)).cellOf (unhide HRJ) id
              obtain ⟨d1', d2⟩ := (unhide Q10).cellO (wantO_len zs own j) d (2 + j) hdl (by omega)
              rw [wantO_get zs own j d hdl] at d1'
              obtain ⟨old, hold⟩ : ∃ y, (obC ⟨(own.getD d ob0).k, (own.getD d ob0).v, wantC zs own j d⟩)[2 + j]? = some (.int .u64 y) := ⟨wantC zs own j d j, by
                unfold obC obV
                rw [Array.getElem?_toList, Array.getElem?_append_right (by simp), show 2 + j - (#[Value.int .i64 (own.getD d ob0).k, .int .i64 (own.getD d ob0).v] : Array Value).size = j by simp, lnV_get _ _ (by omega)]⟩
              have d1 : w10.cell? ⟨gw, d * 10 + 2 + j, none⟩ = some (.int .u64 old) := by rw [Nat.add_assoc, d1', hold]
              have d2' : w10.frozen? ⟨gw, d * 10 + 2 + j, none⟩ = false := by rw [Nat.add_assoc]; exact d2
              rw [hk1] at c0
              clear d1' d2 hold hk1 WY WN
              go_upto_region 23 with fail
              clear c0
              have hdj8 : (j : Int) < 8 := by omega
              have QS := (unhide Q10).stored ((unhide M1).stay A2) (wantO_len zs own j) (wantO_len zs own (j + 1)) (d * 10 + 2 + j) (.int .u64 z0) (unhide WY2)
              have T4 := QSt.stay ((unhide M1).stay A2) (obSt_loc W.heap.size (.slice (some ⟨gw, 0, none⟩) own.length capw) (wantO zs own (j + 1)))
              have Q11 := hide (T4.bl _ _ _ QS.1 (Keeps.refl _ _).drew)
              have B11 : Hid ((w10.setCell ⟨gw, d * 10 + 2 + j, none⟩ (.int .u64 z0)).drew.heap[g1]? = some PB) := (QS.2 g1 rfl).trans (unhide B10)
              clear QS T4 T3 Q10 B10 WY2
              go_region
              clear d1 d2' r0
              generalize (w10.setCell ⟨gw, d * 10 + 2 + j, none⟩ (.int .u64 z0)).drew = w11 at *
              go_wp2_with fail
              go_roundw
              case rel => exact ⟨j + 1, A2, by omega, by go_num, unhide AG2, unhide Q11, unhide B11⟩
              case measure => simp [intOf]; omega
            · have hkb : ((own.getD d ob0).k == 1) = false := by simpa using hk1
              have WN2 := hide (unhide WN fun q => hk1 q.2)
              generalize (own.getD d ob0).k = ok0 at *
              clear hk1 WN WY
              go_wp2_with fail
              go_roundw
              case rel => exact ⟨j + 1, A2, by omega, by go_num, unhide AG2, by rw [unhide WN2]; exact unhide Q10, unhide B10⟩
              case measure => simp [intOf]; omega
          · have hdl' : ¬ ((d : Int) < (own.length : Int)) := by omega
            have WN2 := hide (unhide WN fun q => hdl q.1)
            clear WN WY
            go_wp2_with fail
            go_roundw
            case rel => exact ⟨j + 1, A2, by omega, by go_num, unhide AG2, by rw [unhide WN2]; exact unhide Q10, unhide B10⟩
            case measure => simp [intOf]; omega
        · obtain rfl : j = N := by omega
          by_cases hkl : j < zs.length
          · have hkl' : (j : Int) < (zs.length : Int) := by omega
            have hk30 : ¬ ((j : Int) < 4) := by omega
            go_wp2_with fail
            go_meet
            case rel => exact ⟨A, unhide AG, unhide Q, unhide B⟩
          · have hkl' : ¬ ((j : Int) < (zs.length : Int)) := by omega
            go_wp2_with fail
            go_meet
            case rel => exact ⟨A, unhide AG, unhide Q, unhide B⟩
    case rest =>
      clear Q B AG0
      obtain ⟨A2, ha, hq, hb⟩ := hcut
      have AG := hide ha
      have Q := hide hq
      have B := hide hb
      clear ha hq hb
      have R2 := hide (obSt_loc W.heap.size (.slice (some ⟨gw, 0, none⟩) own.length capw) (wantO zs own N))
      have M2 := hide ((unhide M1).q (unhide R2))
      have HC : Hid (∀ w : World, w.heap[g1]? = some PB → w.cell? ⟨g1, 0, none⟩ = some (.int .i64 z) ∧ w.cell? ⟨g1, 1, none⟩ = some (.slice ak keep.length ck)) := fun w h => by
        rw [unhide HPB] at h
        exact ⟨by rw [cell_of_block h]; rfl, by rw [cell_of_block h]; rfl⟩
      have c0 := (unhide HC _ (unhide B)).1
      have kb := kindN_lt z 60 (by decide)
      have CK := hide (ikind_any z (unhide HZ) 60 (by decide) (by decide) wc)
      obtain ⟨AB, hon⟩ := (unhide AG).fused hN4 ((kindN z 60 : Nat) : Int) ⟨by omega, by omega⟩
      have CF := hide (QSt.fuse (unhide R1) (unhide R2) (unhide Q) ((kindN z 60 : Nat) : Int))
      obtain ⟨A3, hA3⟩ : ∃ X, X = A2.fused ((kindN z 60 : Nat) : Int) := ⟨_, rfl⟩
      rw [← hA3] at AB hon CF
      clear hA3
      generalize kindN z 60 = kk at *
      have hrl := (AB.rs hN4 hon).2
      have AB0 := hide AB
      have AB1 := hide (AB.booted hN4 hon)
      have CB := hide (fun (w : World) G (h : QSt W (fun w G => QSt W (fun w G => Has W w G m A3) (ObSt W.heap.size (.slice (some ⟨go, 0, none⟩) own.length cap) own) w G) (ObSt W.heap.size (.slice (some ⟨gw, 0, none⟩) own.length capw) (wantO zs own N)) w G) => boot_drop (unhide M2) h 420 AB.ok (by omega))
      clear AB hon hrl AG
      go_wp2_with fail
      refine (unhide CK).mono ?_
      rintro e wc ⟨rfl, rfl⟩
      clear c0 CK
      go_wp2_with fail
      refine (unhide CF).mono ?_
      rintro e w12 ⟨rfl, h1, h2⟩
      have Q12 := hide h1
      have B12 := hide ((h2 g1 rfl).trans (unhide B))
      clear h1 h2 CF Q B kb
      go_wp2_with fail
      refine (unhide CB _ _ (unhide Q12)).mono ?_
      rintro e w13 ⟨v13, rfl, h1, h2⟩
      have Q13 := hide h1
      have B13 := hide ((h2 g1 rfl).trans (unhide B12))
      clear h1 h2 CB Q12 B12 AB0
      obtain ⟨A4, hA4⟩ : ∃ X, X = bootM A3 := ⟨_, rfl⟩
      rw [← hA4] at Q13 AB1
      clear hA4
      have c1 := (unhide HC _ (unhide B13)).2
      have CC := hide (QSt.crash (unhide R1) (unhide R2) (unhide Q13) (ok_mono (unhide AB1).ok (by omega)) ak keep ck (unhide HKI) (unhide HKL) (unhide HKA))
      have hc := (unhide AB1).crash keep
      obtain ⟨A5, hA5⟩ : ∃ X, X = A4.crash keep := ⟨_, rfl⟩
      rw [← hA5] at hc CC
      have AB2 := hide hc.1
      have HC5 := hide hc.2
      clear hA5 hc
      go_wp2_with fail
      refine (unhide CC).mono ?_
      rintro e w14 ⟨rfl, h1, h2⟩
      have Q14 := hide h1
      have B14 := hide ((h2 g1 rfl).trans (unhide B13))
      clear h1 h2 CC c1 Q13 B13 AB1
      obtain ⟨e1, e2, e3, _⟩ := (unhide AB2).boot hN4 hol30 (unhide HC5)
      have CB := hide (boot_once (unhide M2) (unhide Q14) _ (unhide AB2).ok (by omega) e1)
      rw [e2] at CB
      have AB3 := hide ((unhide AB2).booted hN4 (unhide HC5).1)
      obtain ⟨A6, hA6⟩ : ∃ X, X = bootM A5 := ⟨_, rfl⟩
      rw [← hA6] at CB AB3
      clear hA6 e1 e2 e3
      have T6 := hide ((unhide M2).stay A6)
      have ZI := hide zero_img
      go_wp2_with fail
      refine (unhide CB).mono ?_
      rintro e w15 ⟨b1, f0, f1, f2, f3, fa, rfl, h1, h2⟩
      have B15 := (h2 g1 rfl).trans (unhide B14)
      obtain ⟨IV1, hIV1⟩ : ∃ V, V = imgV (some ⟨b1, 0, none⟩) f0 f1 f2 f3 fa ((N : Int) + 1) := ⟨_, rfl⟩
      have O1 := hide ((Held.start (unhide T6) h1).alloc (unhide T6) (.cells IV1 111))
      have SI1 : Hid ((Tryz.prog.info? 111).map (·.size) = some IV1.size) := by rw [hIV1]; exact s7_img _ _ _ _ _ _ _
      have SZ1 : Hid (imgZ.size = IV1.size) := by rw [hIV1]; exact (rfl : imgZ.size = _)
      have XI1 : Hid (IV1.all (·.oneCell') = true) := by rw [hIV1]; exact imgV_one _ _ _ _ _ _ _
      have VC1 : Hid (IV1[0]? = some (.pointer (some ⟨b1, 0, none⟩)) ∧ IV1[6]? = some (.int .i64 ((N : Int) + 1))) := by rw [hIV1]; exact ⟨rfl, rfl⟩
      rw [← hIV1]
      have B16 := hide (((unhide O1).2.2 g1 rfl).trans B15)
      clear h1 h2 CB hIV1 B15 Q14 B14
      go_upto_region 28 with (first | (with_reducible refine wpList_allocZ (by with_unfolding_all rfl) 111 (by with_unfolding_all rfl) imgZ (unhide ZI) ?_) | (with_reducible refine wpList_store_row (by with_unfolding_all rfl) 111 _ _ (by with_unfolding_all rfl) w15.heap.size IV1 (by with_unfolding_all rfl) (by with_unfolding_all rfl) 111 imgZ (heap_new w15 _) (unhide SI1) (unhide SZ1) (unhide XI1) ?_; rw [setRow_alloc]))
      obtain ⟨gA, hgA⟩ : ∃ g, g = w15.heap.size := ⟨_, rfl⟩
      rw [← hgA] at O1 ⊢
      clear hgA SI1 SZ1 XI1
      generalize w15.alloc (.cells IV1 111) = w16 at *
      have c1 := (unhide HC _ (unhide B16)).2
      have CC := hide (QSt.crash (unhide R1) (unhide R2) (unhide O1).st (ok_mono (unhide AB3).ok (by omega)) ak keep ck (unhide HKI) (unhide HKL) (unhide HKA))
      have hc := (unhide AB3).crash keep
      obtain ⟨A7, hA7⟩ : ∃ X, X = A6.crash keep := ⟨_, rfl⟩
      rw [← hA7] at hc CC
      have AB4 := hide hc.1
      have HC7 := hide hc.2
      clear hA7 hc
      go_wp2_with fail
      refine (unhide CC).mono ?_
      rintro e w17 ⟨rfl, h1, h2⟩
      have O2 := hide ((unhide O1).call (St' := fun w G => QSt W (fun w G => QSt W (fun w G => Has W w G m A7) (ObSt W.heap.size (.slice (some ⟨go, 0, none⟩) own.length cap) own) w G) (ObSt W.heap.size (.slice (some ⟨gw, 0, none⟩) own.length capw) (wantO zs own N)) w G) h1 h2)
      clear h1 h2 CC c1 B16 O1 AB3 T6
      obtain ⟨e1, e2, e3, e4⟩ := (unhide AB4).boot hN4 hol30 (unhide HC7)
      have CB := hide (boot_last (unhide M2) (unhide O2).st _ (unhide AB4).ok (by omega) e1)
      rw [e2] at CB
      obtain ⟨A8, hA8⟩ : ∃ X, X = bootM A7 := ⟨_, rfl⟩
      obtain ⟨S8, hS8⟩ : ∃ X, X = bootS A7 := ⟨_, rfl⟩
      rw [← hA8, ← hS8] at CB e4
      have IC8 := hide e4
      clear hA8 hS8 e1 e2 e3 e4
      go_wp2_with fail
      refine (unhide CB).mono ?_
      rintro e w18 ⟨b2, f0, f1, f2, f3, fa, rfl, h1, h2⟩
      have O3 := (unhide O2).call (St' := SHas W m b2 (fun A w G => QSt W (fun w G => QSt W (fun w G => Has W w G m A) (ObSt W.heap.size (.slice (some ⟨go, 0, none⟩) own.length cap) own) w G) (ObSt W.heap.size (.slice (some ⟨gw, 0, none⟩) own.length capw) (wantO zs own N)) w G) S8 A8) h1 h2
      have T8 := hide (SHas.stay (unhide M2).toMemL b2 S8 A8)
      obtain ⟨IV2, hIV2⟩ : ∃ V, V = imgV (some ⟨b2, 0, none⟩) f0 f1 f2 f3 fa ((N : Int) + 1) := ⟨_, rfl⟩
      have O4 := hide (O3.alloc (unhide T8) (.cells IV2 111))
      have SI1 : Hid ((Tryz.prog.info? 111).map (·.size) = some IV2.size) := by rw [hIV2]; exact s7_img _ _ _ _ _ _ _
      have SZ1 : Hid (imgZ.size = IV2.size) := by rw [hIV2]; exact (rfl : imgZ.size = _)
      have XI1 : Hid (IV2.all (·.oneCell') = true) := by rw [hIV2]; exact imgV_one _ _ _ _ _ _ _
      have VC2 : Hid (IV2[0]? = some (.pointer (some ⟨b2, 0, none⟩)) ∧ IV2[6]? = some (.int .i64 ((N : Int) + 1))) := by rw [hIV2]; exact ⟨rfl, rfl⟩
      rw [← hIV2]
      clear h1 h2 CB hIV2 O2 O3
      go_upto_region 30 with (first | (with_reducible refine wpList_allocZ (by with_unfolding_all rfl) 111 (by with_unfolding_all rfl) imgZ (unhide ZI) ?_) | (with_reducible refine wpList_store_row (by with_unfolding_all rfl) 111 _ _ (by with_unfolding_all rfl) w18.heap.size IV2 (by with_unfolding_all rfl) (by with_unfolding_all rfl) 111 imgZ (heap_new w18 _) (unhide SI1) (unhide SZ1) (unhide XI1) ?_; rw [setRow_alloc]))
      obtain ⟨gB, hgB⟩ : ∃ g, g = w18.heap.size := ⟨_, rfl⟩
      rw [← hgB] at O4 ⊢
      clear hgB SI1 SZ1 XI1 ZI
      generalize w18.alloc (.cells IV2 111) = w19 at *
      have i0 : w19.cell? ⟨gA, 0, none⟩ = some (.pointer (some ⟨b1, 0, none⟩)) := by rw [cell_of_block ((unhide O4).at gA (.cells IV1 111) (by simp))]; exact (unhide VC1).1
      have i6 : w19.cell? ⟨gA, 6, none⟩ = some (.int .i64 ((N : Int) + 1)) := by rw [cell_of_block ((unhide O4).at gA (.cells IV1 111) (by simp))]; exact (unhide VC1).2
      have j0 : w19.cell? ⟨gB, 0, none⟩ = some (.pointer (some ⟨b2, 0, none⟩)) := by rw [cell_of_block ((unhide O4).at gB (.cells IV2 111) (by simp))]; exact (unhide VC2).1
      have j6 : w19.cell? ⟨gB, 6, none⟩ = some (.int .i64 ((N : Int) + 1)) := by rw [cell_of_block ((unhide O4).at gB (.cells IV2 111) (by simp))]; exact (unhide VC2).2
      have hmin : (min (zs.length : Int) 4) = (N : Int) := by omega
      have hz63 := unhide HZL
      go_upto_region 32 with fail
      clear i0 i6 j0 j6 hmin hz63
      have hn8 : A8.n ≤ 1024 := by rw [(unhide IC8).an]; decide
      have TOLD := hide (fun i hi => (unhide IC8).told (unhide HOK) i hi)
      have CG := hide (fun (i : Nat) (w' : World) (G' : Nat → Prop) (h' : SHas W m b2 (fun A w G => QSt W (fun w G => QSt W (fun w G => Has W w G m A) (ObSt W.heap.size (.slice (some ⟨go, 0, none⟩) own.length cap) own) w G) (ObSt W.heap.size (.slice (some ⟨gw, 0, none⟩) own.length capw) (wantO zs own N)) w G) S8 A8 w' G') => get_any (unhide M2).toMemL h' hn8 (i : Int))
      clear hn8 IC8 AB4 HC7 VC1 HC AB2 HC5
      go_wp2_with fail
      go_loopw [20] (fun c wr => ∃ i : Nat, i ≤ 49 ∧ c = .int .i64 i ∧ Held W (SHas W m b2 (fun A w G => QSt W (fun w G => QSt W (fun w G => Has W w G m A) (ObSt W.heap.size (.slice (some ⟨go, 0, none⟩) own.length cap) own) w G) (ObSt W.heap.size (.slice (some ⟨gw, 0, none⟩) own.length capw) (wantO zs own N)) w G) S8 A8) w15 wr (fun k => k = g1) [(gB, .cells IV2 111)]) (fun c _ => 49 - (intOf c).toNat)
      case atStart => exact ⟨0, by omega, rfl, (unhide O4).less (unhide T8) (by simp)⟩
      case round =>
        clear O4
        obtain ⟨i, hi, rfl, hh⟩ := hrel
        have HH := hide hh
        clear hh
        by_cases hlt : i < 49
        · have hlt' : (i : Int) < 49 := by omega
          have hi0 : (0 : Int) ≤ (i : Int) := by omega
          have CGI := hide (unhide CG i _ _ (unhide HH).st)
          have ZO := hide zero_ob
          have j0 : wr.cell? ⟨gB, 0, none⟩ = some (.pointer (some ⟨b2, 0, none⟩)) := by rw [cell_of_block ((unhide HH).at gB (.cells IV2 111) (by simp))]; exact (unhide VC2).1
          by_cases hio : i < own.length
          · have hio' : (i : Int) < (own.length : Int) := by omega
            have hio2 : ¬ ((own.length : Int) ≤ (i : Int)) := by omega
            rw [(unhide TOLD i hlt).1 hio] at CGI
            obtain ⟨⟨xk, xv, xf⟩, hx⟩ : ∃ x, x = (wantO zs own N).getD i ob0 := ⟨_, rfl⟩
            rw [← hx] at CGI
            have HX := hide hx
            have CG2 : Hid (Calls Tryz.prog 42 #[.pointer (some ⟨b2, 0, none⟩), .int .i64 (i : Int)] wr (Done _ wr _ (.tuple #[.agg (obV xk xv xf), .int .i64 0]))) := unhide CGI
            clear hx CGI
            have EQO := hide (fun (w : World) => equal_ob xk xv xf w)
            have S1 := hide (s10_ob xk xv xf)
            have X1 := hide (obV_one xk xv xf)
            have Q1 : Hid ((obV 0 0 fun _ => 0).size = (obV xk xv xf).size) := by show _ = _; rw [obV_size, obV_size]
            generalize (obV 0 0 fun _ => 0) = ZOV at *
            obtain ⟨OV, hOV⟩ : ∃ V, V = obV xk xv xf := ⟨_, rfl⟩
            rw [← hOV] at CG2 S1 X1 Q1 EQO
            have HOV := hide hOV
            clear hOV
            go_wp2_with fail
            refine (unhide CG2).mono ?_
            rintro e w20 ⟨rfl, h1, h2⟩
            have O5 := (unhide HH).call (St' := SHas W m b2 (fun A w G => QSt W (fun w G => QSt W (fun w G => Has W w G m A) (ObSt W.heap.size (.slice (some ⟨go, 0, none⟩) own.length cap) own) w G) (ObSt W.heap.size (.slice (some ⟨gw, 0, none⟩) own.length capw) (wantO zs own N)) w G) S8 A8) h1 h2
            have O6 := hide (O5.alloc (unhide T8) (.cells OV 88))
            clear h1 h2 CG2 HH j0 O5
            go_upto_region 36 with (first | (with_reducible refine wpList_allocZ (by with_unfolding_all rfl) 88 (by with_unfolding_all rfl) ZOV (unhide ZO) ?_) | (with_reducible refine wpList_store_row (by with_unfolding_all rfl) 88 _ _ (by with_unfolding_all rfl) w20.heap.size OV (by with_unfolding_all rfl) (by with_unfolding_all rfl) 88 ZOV (heap_new w20 _) (unhide S1) (unhide Q1) (unhide X1) ?_; rw [setRow_alloc]))
            obtain ⟨gx, hgx⟩ : ∃ g, g = w20.heap.size := ⟨_, rfl⟩
            rw [← hgx] at O6 ⊢
            clear hgx S1 Q1 X1 ZO
            generalize w20.alloc (.cells OV 88) = w21 at *
            have XR : Hid (w21.rangeAt gx 0 OV.toList) := fun j v hj => by
              rw [Nat.zero_add, cell_of_block ((unhide O6).at gx (.cells OV 88) (by simp)), ← Array.getElem?_toList]; exact hj
            have RW : Hid (w21.rangeAt gw (i * 10) OV.toList) := by
              have := (unhide O6).st.st.rangeO (wantO_len zs own N) i hio
              rw [← unhide HX] at this
              rw [unhide HOV]; exact this
            have s10 : (Tryz.prog.info? 88).map (·.size) = some OV.toList.length := by rw [unhide HOV, Array.length_toList, obV_size]; kernel_rfl
            clear HX HOV
            go_wp2_with fail
            refine wp_region_noPanic ?_
            refine wp_region_held_drew (S := fun w' => w'.rangeAt gx 0 OV.toList ∧ w'.rangeAt gw (i * 10) OV.toList) (by kernel_rfl) ⟨unhide XR, unhide RW⟩ (fun hHeld => ?_)
            refine take_at 0 195 (v := ?_) rfl rfl (by kernel_rfl) (by kernel_rfl) (by kernel_rfl) (Or.inl ⟨by rfl, ?_⟩) hHeld ?_
            rotate_left
            · intro w hSw; go_simp; with_reducible rfl
            simp only [Act.put, List.setIfInBounds_toArray, List.set_cons_zero, List.set_cons_succ]
            refine take_at 1 196 (v := ?_) rfl rfl (by kernel_rfl) (by kernel_rfl) (by kernel_rfl) (Or.inl ⟨by rfl, ?_⟩) hHeld ?_
            rotate_left
            · intro w hSw; go_simp; with_reducible rfl
            simp only [Act.put, List.setIfInBounds_toArray, List.set_cons_zero, List.set_cons_succ]
            refine take_at 2 197 (v := ?_) rfl rfl (by kernel_rfl) (by kernel_rfl) (by kernel_rfl) (Or.inl ⟨by rfl, ?_⟩) hHeld ?_
            rotate_left
            · intro w hSw; go_simp; with_reducible rfl
            simp only [Act.put, List.setIfInBounds_toArray, List.set_cons_zero, List.set_cons_succ]
            refine take_at 3 198 rfl rfl (by kernel_rfl) (by kernel_rfl) (by kernel_rfl) (yieldsIf_load_mid (by rfl) _ _ rfl gx 0 rfl _ _ (fun w h => h.1) Tryz.underlying88 rfl s10) hHeld ?_
            simp only [Act.put, List.setIfInBounds_toArray, List.set_cons_zero, List.set_cons_succ]
            refine take_at 4 199 (v := ?_) rfl rfl (by kernel_rfl) (by kernel_rfl) (by kernel_rfl) (Or.inl ⟨by rfl, ?_⟩) hHeld ?_
            rotate_left
            · intro w hSw; go_simp; with_reducible rfl
            simp only [Act.put, List.setIfInBounds_toArray, List.set_cons_zero, List.set_cons_succ]
            refine take_at 5 200 (v := ?_) rfl rfl (by kernel_rfl) (by kernel_rfl) (by kernel_rfl) (Or.inl ⟨by rfl, ?_⟩) hHeld ?_
            rotate_left
            · intro w hSw; go_simp; with_reducible rfl
            simp only [Act.put, List.setIfInBounds_toArray, List.set_cons_zero, List.set_cons_succ]
            refine take_at 6 201 (v := ?_) rfl rfl (by kernel_rfl) (by kernel_rfl) (by kernel_rfl) (Or.inl ⟨by rfl, ?_⟩) hHeld ?_
            rotate_left
            · intro w hSw; go_simp; with_reducible rfl
            simp only [Act.put, List.setIfInBounds_toArray, List.set_cons_zero, List.set_cons_succ]
            refine take_at 7 202 rfl rfl (by kernel_rfl) (by kernel_rfl) (by kernel_rfl) (yieldsIf_load_mid (by rfl) _ _ rfl gw (i * 10) rfl _ _ (fun w h => h.2) Tryz.underlying88 rfl s10) hHeld ?_
            simp only [Act.put, List.setIfInBounds_toArray, List.set_cons_zero, List.set_cons_succ]
            refine take_at 8 203 rfl rfl (by kernel_rfl) (by kernel_rfl) (by kernel_rfl) (yieldsIf_neqA (by rfl) 88 88 (.tmp 198) (.tmp 202) rfl OV OV rfl rfl ob_guard true (unhide EQO)) hHeld ?_
            simp only [Act.put, List.setIfInBounds_toArray, List.set_cons_zero, List.set_cons_succ]
            refine take_at 9 204 (v := ?_) rfl rfl (by kernel_rfl) (by kernel_rfl) (by kernel_rfl) (Or.inl ⟨by rfl, ?_⟩) hHeld ?_
            rotate_left
            · intro w hSw; go_simp; with_reducible rfl
            simp only [Act.put, List.setIfInBounds_toArray, List.set_cons_zero, List.set_cons_succ]
            refine wpAnyH_done (by kernel_rfl) ?_ _
            refine NoPanic.normal ?_
            clear hHeld XR RW s10
            go_wp2_with fail
            go_roundw
            case rel => exact ⟨i + 1, by omega, by go_num, ((unhide O6).less (unhide T8) (by simp)).drew (unhide T8)⟩
            case measure => simp [intOf]; omega
          · have hio2 : (own.length : Int) ≤ (i : Int) := by omega
            rw [(unhide TOLD i hlt).2 (by omega)] at CGI
            obtain ⟨xk, xv, xf, hx⟩ : ∃ (k v : Int) (f : Nat → Int), obV 0 0 (fun _ => 0) = obV k v f := ⟨_, _, _, rfl⟩
            rw [hx] at CGI
            have CG2 : Hid (Calls Tryz.prog 42 #[.pointer (some ⟨b2, 0, none⟩), .int .i64 (i : Int)] wr (Done _ wr _ (.tuple #[.agg (obV xk xv xf), .int .i64 30]))) := unhide CGI
            clear hx CGI
            have EQO := hide (fun (w : World) => equal_ob xk xv xf w)
            have S1 := hide (s10_ob xk xv xf)
            have X1 := hide (obV_one xk xv xf)
            have Q1 : Hid ((obV 0 0 fun _ => 0).size = (obV xk xv xf).size) := by show _ = _; rw [obV_size, obV_size]
            generalize (obV 0 0 fun _ => 0) = ZOV at *
            obtain ⟨OV, hOV⟩ : ∃ V, V = obV xk xv xf := ⟨_, rfl⟩
            rw [← hOV] at CG2 S1 X1 Q1 EQO
            have HOV := hide hOV
            clear hOV
            go_wp2_with fail
            refine (unhide CG2).mono ?_
            rintro e w20 ⟨rfl, h1, h2⟩
            have O5 := (unhide HH).call (St' := SHas W m b2 (fun A w G => QSt W (fun w G => QSt W (fun w G => Has W w G m A) (ObSt W.heap.size (.slice (some ⟨go, 0, none⟩) own.length cap) own) w G) (ObSt W.heap.size (.slice (some ⟨gw, 0, none⟩) own.length capw) (wantO zs own N)) w G) S8 A8) h1 h2
            have O6 := hide (O5.alloc (unhide T8) (.cells OV 88))
            clear h1 h2 CG2 HH j0 O5
            go_upto_region 36 with (first | (with_reducible refine wpList_allocZ (by with_unfolding_all rfl) 88 (by with_unfolding_all rfl) ZOV (unhide ZO) ?_) | (with_reducible refine wpList_store_row (by with_unfolding_all rfl) 88 _ _ (by with_unfolding_all rfl) w20.heap.size OV (by with_unfolding_all rfl) (by with_unfolding_all rfl) 88 ZOV (heap_new w20 _) (unhide S1) (unhide Q1) (unhide X1) ?_; rw [setRow_alloc]))
            obtain ⟨gx, hgx⟩ : ∃ g, g = w20.heap.size := ⟨_, rfl⟩
            rw [← hgx] at O6 ⊢
            clear hgx S1 Q1 X1 ZO
            generalize w20.alloc (.cells OV 88) = w21 at *
            clear HOV EQO
            go_wp2_with fail
            go_roundw
            case rel => exact ⟨i + 1, by omega, by go_num, (unhide O6).less (unhide T8) (by simp)⟩
            case measure => simp [intOf]; omega
        · obtain rfl : i = 49 := by omega
          have KF := hide ((unhide T8).sz _ _ (unhide HH).1)
          go_wp2_with fail
          go_ret
          exact ⟨rfl, (unhide KF).asBelow⟩

theorem walk (W : World) (al : Option Addr) (cl : Nat) (l : List Ob) (av : Option Addr) (zs : List Int) (nv cv : Nat) (z : Int) (ak : Option Addr) (keep : List Int) (ck : Nat)
    (hL : l.length ≤ cl ∧ l.length ≤ 9223372036854775807 ∧ ObsAt W al l ∧ ∀ x ∈ l, ObIn x) (hV : IsRow W .u64 av zs nv cv) (hP : In64 z ∧ IntsAt W ak keep ∧ (∀ z ∈ keep, In64 z) ∧ keep.length ≤ 9223372036854775807) :
    Calls Tryz.prog 7 #[.slice al l.length cl, .slice av nv cv, .agg #[.int .i64 z, .slice ak keep.length ck]] W fun e w' => e = .returned (.bool true) ∧ Below W.heap.size W w' := by
  obtain ⟨rfl, h2, h3, h4, h5⟩ := hV
  exact walkA W al l cl hL.2.1 hL.2.2.1 hL.2.2.2 av zs cv (by omega) h2 (fun z hz => inU_wf (h3 z hz)) z ak keep ck hP.1 hP.2.1 hP.2.2.1 hP.2.2.2

set_option maxRecDepth 100000 in
theorem lifted (os : Os) (started : os.Started) (H : Type) (enc : TypeId × Value → H) :
    ReturnsInHanded {} Tryz.checked os 7 .any (Rows.reviveAgainSpec.pre6 enc Tryz.prog Tryz.f7 Rows.reviveAgainRow.domain false) (Rows.reviveAgainSpec.post enc Tryz.prog Tryz.f7 false true false false) := by
  refine law_frame (C := Tryz.checked) (ts := [101, 123, 103]) (tb := 4) (by kernel_rfl) started (by kernel_rfl) Tryz.func7 Tryz.params7 (by kernel_rfl) Tryz.underlying4 (by kernel_rfl) (by kernel_rfl) rfl ?_
    (ChangeSpec.witness6 (enc := enc) (C := Tryz.checked) false ⟨#[], #[.slice none 0 0, .slice none 0 0, .agg #[.int .i64 0, .slice none 0 0]], []⟩ 8 (by kernel_rfl) (by kernel_rfl) (by kernel_rfl) (by kernel_rfl)) ?_
  · intro ds hd
    match ds, hd with
    | [d0, d1, d2], _ => rfl
  · intro W base args ds p hval hA
    obtain ⟨v0, vs0, d0, ds0, p0, q0, hargs, rfl, rfl, h0, r0⟩ := trodAll_cons hA
    obtain ⟨v1, vs1, d1, ds1, p1, q1, rfl, rfl, rfl, h1, r1⟩ := trodAll_cons r0
    obtain ⟨v2, vs2, d2, ds2, p2, q2, rfl, rfl, rfl, h2, r2⟩ := trodAll_cons r1
    obtain ⟨rfl, rfl, rfl⟩ := trodAll_nil r2
    obtain rfl : args = #[v0, v1, v2] := by cases args; simp_all
    obtain ⟨al, cl, l, rfl, hL⟩ := open_obs (hval 0 101 v0 rfl rfl) h0
    obtain ⟨av, zs, nv, cv, rfl, hV⟩ := open_u64sO (hval 1 123 v1 rfl rfl) h1
    obtain ⟨z, ak, keep, ck, rfl, hP⟩ := open_powerI (hval 2 103 v2 rfl rfl) h2
    exact walk W al cl l av zs nv cv z ak keep ck hL hV hP

theorem over : Rows.reviveAgainRow.holds Tryz.pinned (OpenSpec.ofChange Rows.reviveAgainSpec) :=
  OpenClaim.holds_of_wide 7 Tryz.f7 rfl rfl rfl rfl rfl rfl rfl ⟨rfl, rfl, rfl, rfl, rfl⟩ rfl rfl rfl rfl rfl (by kernel_rfl) Tryz.func7 (by kernel_rfl)
    (of_decide_eq_true (by kernel_rfl)) (by unfold Func.isWrapper; first | (rw [if_pos (by decide +kernel)]; kernel_rfl) | (rw [if_neg (by decide +kernel)]; exact ⟨rfl, rfl⟩))
    (fun os started H enc _ => lifted os started H enc)

end Go.Proofs.YtiafhcgaikapcaaGreat.reviveAgain
namespace Go.Proofs.YtiafhcgaikapcaaGreat
theorem reviveAgain_holds : Rows.ReviveAgainSaid := reviveAgain.over
end Go.Proofs.YtiafhcgaikapcaaGreat
