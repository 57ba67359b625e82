
/-
  A row of objects of the call's own that grows, beside a state; kind of steadfastlaw12; objects, Power among the arguments.
-/
import Derived.Test.YtiafhcgaikapcaaGreatICalls
import Derived.Test.YtiafhcgaikapcaaGreatIBoot
import Derived.Great.BuildSlice
import Derived.OwnWalk
import Derived.BigQuiet
import Derived.Maps.AppendAt
import Derived.Test.YtiafhcgaikapcaaGreatPkShow
import Derived.Test.YtiafhcgaikapcaaGreatPkIv
import Derived.Test.YtiafhcgaikapcaaGreatFlat
namespace Go.Proofs.YtiafhcgaikapcaaGreat
open Go.ChangeShapes Go.WideShapes Go.ChangeAt Go.RowKit Go.Joins Go.Deep
set_option maxRecDepth 10000
set_option linter.unusedVariables false
set_option linter.unusedSimpArgs false

def obsL (l : List Ob) : List Value := l.flatMap obC
theorem obsL_len (l : List Ob) : (obsL l).length = l.length * 10 := by
  induction l with
  | nil => rfl
  | cons x r ih => show (obC x ++ obsL r).length = _; rw [List.length_append, ih, obC_len, List.length_cons]; omega
theorem obsL_app (l r : List Ob) : obsL (l ++ r) = obsL l ++ obsL r := by unfold obsL; rw [List.flatMap_append]
theorem obsL_get : ∀ (l : List Ob) (i j : Nat), i < l.length → j < 10 → (obsL l)[i * 10 + j]? = (obC (l.getD i ob0))[j]?
  | [], i, j, hi, _ => by simp at hi
  | x :: r, 0, j, hi, hj => by
    show (obC x ++ obsL r)[0 * 10 + j]? = (obC x)[j]?
    rw [Nat.zero_mul, Nat.zero_add, List.getElem?_append_left (by rw [obC_len]; exact hj)]
  | x :: r, i + 1, j, hi, hj => by
    show (obC x ++ obsL r)[(i + 1) * 10 + j]? = _
    rw [List.getElem?_append_right (by rw [obC_len]; omega), obC_len, show (i + 1) * 10 + j - 10 = i * 10 + j by omega]
    exact obsL_get r i j (by simpa using hi) hj
theorem obC_one (x : Ob) : ∀ u ∈ obC x, u.oneCell' = true := fun u hu => by
  have := obV_one x.k x.v x.l
  rw [Array.all_eq_true] at this
  obtain ⟨i, hi, rfl⟩ := List.getElem_of_mem hu
  exact this i (by simpa [obC] using hi)
def RowO (base : Nat) (v : Value) (l : List Ob) (w : World) : Prop := w.ownsRow base 88 10 v l.length (obsL l)
theorem RowO.same {base : Nat} {v : Value} {l : List Ob} {w w' : World} (h : RowO base v l w) (hs : ∀ k, v.ownBlock = some k → w'.heap[k]? = w.heap[k]?) : RowO base v l w' := by
  refine ⟨h.1, ?_⟩
  rcases h.2 with h' | ⟨g, cap, cur, rfl, h1, h2, h3⟩
  · exact Or.inl h'
  · exact Or.inr ⟨g, cap, cur, rfl, h1, (hs g rfl).trans h2, h3⟩
theorem RowO.lt {base : Nat} {v : Value} {l : List Ob} {w : World} (h : RowO base v l w) : ∀ k, v.ownBlock = some k → base ≤ k ∧ k < w.heap.size := fun k hk => World.ownsRow.lt h k hk
/-- It lies behind a slice. -/
theorem RowO.at {base : Nat} {v : Value} {l : List Ob} {w : World} (h : RowO base v l w) : ∃ p cap, v = .slice p l.length cap ∧ l.length ≤ cap ∧ (∀ w' : World, (∀ k, v.ownBlock = some k → w'.heap[k]? = w.heap[k]?) → ObsAt w' p l) := by
  rcases h.2 with ⟨rfl, h0⟩ | ⟨g, cap, cur, rfl, hb, hg, hc, _⟩
  · exact ⟨none, 0, by rw [h0], by rw [h0]; exact Nat.le_refl _, fun w' _ => Or.inl (List.eq_nil_of_length_eq_zero h0)⟩
  · refine ⟨some ⟨g, 0, none⟩, cap, rfl, hc, fun w' hs => Or.inr ⟨g, 0, rfl, fun i hi j u hu => ?_⟩⟩
    have hj : j < 10 := by
      rcases Nat.lt_or_ge j 10 with q | q
      · exact q
      · rw [List.getElem?_eq_none (by rw [obC_len]; exact q)] at hu; cases hu
    have h' : RowO base (.slice (some ⟨g, 0, none⟩) l.length cap) l w' := h.same hs
    rw [show 0 + i * 10 + j = i * 10 + j by omega, World.ownsRow.cellAt h' (i * 10 + j) (by omega), obsL_get l i j hi hj]
    exact hu
/-- A row of objects, as a state in a block of its own. -/
def ObSt (base : Nat) (v : Value) (l : List Ob) (w : World) (C : Nat → Prop) : Prop := (∀ k, C k ↔ v.ownBlock = some k) ∧ RowO base v l w
theorem obSt_loc (base : Nat) (v : Value) (l : List Ob) : Loc (ObSt base v l) := fun w w' C ⟨h1, h2⟩ hs => ⟨h1, h2.same fun k hk => hs k ((h1 k).2 hk)⟩
theorem keeps_madeI {F : Nat → Prop} {w w' : World} {o : Obj} (hk : Keeps F w w') (h : w'.heap[w.heap.size]? = some o) : Keeps F (w.alloc o) w' := by
  have hlt : w.heap.size < w'.heap.size := by
    rcases Nat.lt_or_ge w.heap.size w'.heap.size with q | q
    · exact q
    · rw [Array.getElem?_eq_none q] at h; cases h
  have hs : (w.alloc o).heap.size = w.heap.size + 1 := by simp
  refine ⟨hk.os, hk.tape, hk.output, by rw [hs]; omega, fun k hk' hF => ?_⟩
  rw [hs] at hk'
  by_cases e : k = w.heap.size
  · rw [e, h, heap_new]
  · rw [hk.block k (by omega) hF, Below.heap_alloc _ _ _ (by omega)]
theorem stay_growsI {W : World} {St : World → (Nat → Prop) → Prop} {F : Nat → Prop} {w w' : World} {G : Nat → Prop} (S : Stay W St) (h : St w G) (hk : Keeps F w w') :
    ∀ d, w.heap.size + d ≤ w'.heap.size → ∃ u, St u (fun k => G k ∨ (w.heap.size ≤ k ∧ k < w.heap.size + d)) ∧ Keeps F u w' ∧ u.heap.size = w.heap.size + d
  | 0, _ => ⟨w, S.ls _ _ _ h (fun k hk => by
      rcases hk with hk | hk
      · exact hk
      · omega), hk, rfl⟩
  | d + 1, hd => by
    obtain ⟨u, h1, h2, h3⟩ := stay_growsI S h hk d (by omega)
    obtain ⟨o, ho⟩ : ∃ o, w'.heap[u.heap.size]? = some o := ⟨w'.heap[u.heap.size]'(by omega), Array.getElem?_eq_getElem _⟩
    refine ⟨u.alloc o, S.ls _ _ _ (S.al _ _ o h1) (fun k hk => ?_), keeps_madeI h2 ho, by simp; omega⟩
    rcases hk with hk | hk
    · exact Or.inl (Or.inl hk)
    · by_cases e : k = u.heap.size
      · exact Or.inr e
      · exact Or.inl (Or.inr (by omega))
/-- The row has grown: the state stands beside it as before. -/
theorem stay_rowO {W : World} {St : World → (Nat → Prop) → Prop} {w w' : World} {G : Nat → Prop} {v v' : Value} {l l' : List Ob} (S : Stay W St) (h : QSt W St (ObSt W.heap.size v l) w G) (hg : w.grownBy w' v.ownBlock)
    (hr' : RowO W.heap.size v' l' w') (h5 : v'.ownBlock = v.ownBlock ∨ ∃ k, v'.ownBlock = some k ∧ w.heap.size ≤ k) : QSt W St (ObSt W.heap.size v' l') w' G ∧ Same G w w' := by
  obtain ⟨C, s1, ⟨c1, hr⟩, s3, s4⟩ := h
  have hk : Keeps (fun k => v.ownBlock = some k) w w' := Keeps.grown (Keeps.refl _ _) hg (fun k e => Or.inl e)
  have hltG : ∀ k, G k → k < w.heap.size := fun k hk => S.lt _ _ s1 k (Or.inl hk)
  obtain ⟨u, h1, h2, h3⟩ := stay_growsI S s1 hk (w'.heap.size - w.heap.size) (by have := hk.size; omega)
  have hin : ∀ k, (G k ∨ v'.ownBlock = some k) → (G k ∨ C k) ∨ (w.heap.size ≤ k ∧ k < w.heap.size + (w'.heap.size - w.heap.size)) := fun k hk' => by
    rcases hk' with hk' | hk'
    · exact Or.inl (Or.inl hk')
    · rcases h5 with h5 | ⟨k', h5, h6⟩
      · exact Or.inl (Or.inr ((c1 k).2 (h5.symm.trans hk')))
      · have e := Option.some.inj (h5.symm.trans hk')
        have := (hr'.lt k hk').2
        exact Or.inr (by omega)
  have hst : St w' (fun k => G k ∨ v'.ownBlock = some k) := by
    cases hv : v.ownBlock with
    | none =>
      rw [hv] at h2
      exact S.ls _ _ _ (S.bl _ _ _ h1 (h2.mono fun k _ e => by cases e)) hin
    | some L =>
      rw [hv] at h2
      exact S.ls _ _ _ (S.ow _ _ _ L h1 (Or.inl (Or.inr ((c1 L).2 hv))) (hr.lt L hv).1 (h2.mono fun k _ e => (Option.some.inj e).symm)) hin
  refine ⟨⟨fun k => v'.ownBlock = some k, hst, ⟨fun k => Iff.rfl, hr'⟩, fun k hk' e => ?_, fun k e => (hr'.lt k e).1⟩, fun k hk' => hk.block k (hltG k hk') (fun e => s3 k hk' ((c1 k).2 e))⟩
  rcases h5 with h5 | ⟨k', h5, h6⟩
  · exact s3 k hk' ((c1 k).2 (h5.symm.trans e))
  · have := Option.some.inj (h5.symm.trans e)
    have := hltG k hk'
    omega
theorem info_obj : (Tryz.prog.info? 88).map (fun i => (i.zero, i.size, i.bytes)) = some (some (.agg (obV 0 0 fun _ => 0)), 10, 80) := by kernel_rfl
theorem fill_one (k v : Int) (f : Nat → Int) : Instr.fill (fun i => some (i * 10, 10)) ((Array.range (1 * 10)).map ((Value.agg (obV 0 0 fun _ => 0)).cells[· % (Value.agg (obV 0 0 fun _ => 0)).cells.size]!)) [(0, .agg (obV k v f))] = some (obV k v f) := by kernel_rfl
theorem wpList_obj1 {ops : Array Oper} {rest : List Oper} {o : Oper} {a : Act} {w : World} {Q : Exit → Act → World → Prop} (hg : o.guard = none) (x0 : Operand) (ho : o.op = .buildSlice 101 1 #[(0, x0)]) (k v : Int) (f : Nat → Int) (h0 : a.eval x0 = .agg (obV k v f))
    (h : wpList Tryz.prog ops Q rest (a.put o.dst (.slice (some ⟨w.heap.size, 0, none⟩) 1 1)) (w.alloc (.cells (obV k v f) 88))) : wpList Tryz.prog ops Q (o :: rest) a w := by
  obtain ⟨ie, hie, hz, hs, -⟩ := info_parts info_obj
  refine wpList_buildSlice hg 101 88 1 _ ho (obV k v f) ie _ Tryz.underlying101 hie hz (by rw [hs]; decide) (by rw [hs]; decide) ?_ h
  rw [hs]
  have e : (#[((0 : Nat), x0)].map fun (i, x) => (i, a.eval x)).toList = [(0, .agg (obV k v f))] := by simp [h0]
  rw [e]
  exact fill_one k v f
/-- A new row, of nothing. -/
theorem QSt.row0 {W w : World} {St : World → (Nat → Prop) → Prop} {G : Nat → Prop} (S : Stay W St) (h : St w G) : QSt W St (ObSt W.heap.size (.slice (some ⟨w.heap.size, 0, none⟩) 0 0) []) (w.alloc (.cells #[] 88)) G ∧ Same G w (w.alloc (.cells #[] 88)) := by
  have hlt := S.lt _ _ h
  refine ⟨⟨fun k => k = w.heap.size, S.al _ _ _ h, ⟨fun k => ?_, World.ownsRow_lit (base := W.heap.size) (e := 88) (size := 10) w #[] 0 (S.sz _ _ h).size (by decide) rfl⟩, fun k hk e => ?_, fun k e => e ▸ (S.sz _ _ h).size⟩, fun k hk => Below.heap_alloc _ _ _ (hlt k hk)⟩
  · show _ ↔ some w.heap.size = some k
    exact ⟨fun e => by rw [e], fun e => (Option.some.inj e).symm⟩
  · have := hlt k hk; omega
/-- Some more objects behind the row, beside a state. -/
theorem push_obs {W w : World} {St : World → (Nat → Prop) → Prop} {G : Nat → Prop} {v : Value} {l : List Ob} {ops : Array Oper} {rest : List Oper} {o : Oper} {a : Act} {Q : Exit → Act → World → Prop} (S : Stay W St) (r : List Ob) (gx c : Nat) (hgd : o.guard = none) (s x : Operand)
    (ho : o.op = .call { callee := .builtin .append, args := #[s, x], argTypes := #[101, 101] }) (hs : a.eval s = v) (hst : QSt W St (ObSt W.heap.size v l) w G) (hx : a.eval x = .slice (some ⟨gx, 0, none⟩) r.length c) (hr : ObsAt w (some ⟨gx, 0, none⟩) r) (hlen : l.length + r.length < 1000)
    (h : ∀ v' w', QSt W St (ObSt W.heap.size v' (l ++ r)) w' G → Same G w w' → (v ≠ .slice none 0 0 → v' ≠ .slice none 0 0) → wpList Tryz.prog ops Q rest (a.put o.dst v') w') : wpList Tryz.prog ops Q (o :: rest) a w := by
  obtain ⟨i0, hi, hz0, hz1, hz2⟩ := info_parts info_obj
  obtain ⟨C, s1, ⟨c1, hrow⟩, s3, s4⟩ := id hst
  refine wpList_append_own_at _ hgd s x 101 ho W.heap.size 88 i0 (.agg (obV 0 0 fun _ => 0)) 10 80 Tryz.underlying101 hi hz0 hz1 hz2 (obV_size 0 0 _) (by decide) v l.length (obsL l) hs hrow ⟨gx, 0, none⟩ r.length c (obsL r) hx (obsL_len r) ?_ ?_ ?_ ?_ ?_ ?_
  · intro j u hj
    have hjl : j < r.length * 10 := by
      rcases Nat.lt_or_ge j (r.length * 10) with q | q
      · exact q
      · rw [List.getElem?_eq_none (by rw [obsL_len]; exact q)] at hj; cases hj
    obtain ⟨p, q, hq, rfl⟩ : ∃ p q, q < 10 ∧ j = p * 10 + q := ⟨j / 10, j % 10, by omega, by omega⟩
    have hp : p < r.length := by omega
    obtain ⟨g, o', e, hrg⟩ := hr.range p hp
    cases e
    rw [obsL_get r p q hp hq] at hj
    have := hrg q u hj
    rw [Addr.add_mid]
    rw [show 0 + (p * 10 + q) = 0 + p * 10 + q by omega]
    exact this
  · intro u hu
    obtain ⟨y, _, hy⟩ := List.mem_flatMap.1 hu
    exact obC_one y u hy
  · unfold maxLen; omega
  · omega
  · exact (S.sz _ _ s1).size
  · intro v' w' h2 h3 h4 h5
    have h2' : RowO W.heap.size v' (l ++ r) w' := by
      show w'.ownsRow W.heap.size 88 10 v' (l ++ r).length (obsL (l ++ r))
      rw [List.length_append, obsL_app]; exact h2
    obtain ⟨q1, q2⟩ := stay_rowO S hst h3 h2' (h5.imp id fun e => ⟨_, e, Nat.le_refl _⟩)
    exact h v' w' q1 q2 fun hv e => hv (h4.1 e).1
/-- A word of the row is stored. -/
theorem QSt.stored {W w : World} {St : World → (Nat → Prop) → Prop} {G : Nat → Prop} {g n cap : Nat} {l l' : List Ob} (S : Stay W St) (h : QSt W St (ObSt W.heap.size (.slice (some ⟨g, 0, none⟩) n cap) l) w G) (hn : l.length = n) (hl : l'.length = n) (j : Nat) (u : Value) (hs : obsL l' = (obsL l).set j u) :
    QSt W St (ObSt W.heap.size (.slice (some ⟨g, 0, none⟩) n cap) l') (w.setCell ⟨g, j, none⟩ u) G ∧ Same G w (w.setCell ⟨g, j, none⟩ u) := by
  subst hn
  obtain ⟨C, s1, ⟨c1, hrow⟩, s3, s4⟩ := id h
  obtain ⟨q1, q2⟩ := World.ownsRow.stored hrow j u
  refine stay_rowO S h q2 ?_ (Or.inl rfl)
  show World.ownsRow _ _ _ _ _ l'.length (obsL l')
  rw [hl, hs]; exact q1
/-- What lies in the row. -/
theorem QSt.cellO {W w : World} {St : World → (Nat → Prop) → Prop} {G : Nat → Prop} {g n cap : Nat} {l : List Ob} (h : QSt W St (ObSt W.heap.size (.slice (some ⟨g, 0, none⟩) n cap) l) w G) (hn : l.length = n) (i j : Nat) (hi : i < n) (hj : j < 10) : w.cell? ⟨g, i * 10 + j, none⟩ = (obC (l.getD i ob0))[j]? ∧ w.frozen? ⟨g, i * 10 + j, none⟩ = false := by
  subst hn
  obtain ⟨C, s1, ⟨c1, hrow⟩, s3, s4⟩ := h
  exact ⟨(World.ownsRow.cellAt hrow _ (by omega)).trans (obsL_get l i j hi hj), World.ownsRow.frozenAt hrow _⟩
theorem QSt.rangeO {W w : World} {St : World → (Nat → Prop) → Prop} {G : Nat → Prop} {g n cap : Nat} {l : List Ob} (h : QSt W St (ObSt W.heap.size (.slice (some ⟨g, 0, none⟩) n cap) l) w G) (hn : l.length = n) (i : Nat) (hi : i < n) : w.rangeAt g (i * 10) (obC (l.getD i ob0)) := fun j u hu => by
  have hj : j < 10 := by
    rcases Nat.lt_or_ge j 10 with q | q
    · exact q
    · rw [List.getElem?_eq_none (by rw [obC_len]; exact q)] at hu; cases hu
  rw [(h.cellO hn i j hi hj).1]; exact hu
/-- Where it is, while its state is beside another. -/
theorem QSt.obsAt {W w : World} {St : World → (Nat → Prop) → Prop} {G : Nat → Prop} {v : Value} {l : List Ob} (h : QSt W St (ObSt W.heap.size v l) w G) (hv : v ≠ .slice none 0 0) : ∃ g cap, v = .slice (some ⟨g, 0, none⟩) l.length cap ∧ W.heap.size ≤ g ∧ ObsAt w (some ⟨g, 0, none⟩) l := by
  obtain ⟨C, s1, ⟨c1, hrow⟩, s3, s4⟩ := h
  rcases hrow.2 with ⟨rfl, _⟩ | ⟨g, cap, cur, rfl, hb, hg, hc, _⟩
  · exact absurd rfl hv
  · obtain ⟨p, cap', e, _, hat⟩ := RowO.at hrow
    cases e
    exact ⟨g, cap, rfl, hb, hat w fun k _ => rfl⟩

/-! ### the company of a memory, with more blocks beside it -/
theorem Done.q {W w : World} {St' : World → (Nat → Prop) → Prop} {R : World → (Nat → Prop) → Prop} (hR : Loc R) {G C : Nat → Prop} {v : Value} {e : Ending} {w' : World} (h2 : R w C) (h3 : ∀ k, G k → ¬ C k) (h4 : ∀ k, C k → W.heap.size ≤ k) (h : Done St' w (fun k => G k ∨ C k) v e w') : Done (QSt W St' R) w G v e w' :=
  ⟨h.1, ⟨C, h.2.1, hR _ _ _ h2 (fun k hk => h.2.2 k (Or.inr hk)), h3, h4⟩, fun k hk => h.2.2 k (Or.inl hk)⟩
theorem MemI.q {W : World} {m : Nat} {St : Mm → World → (Nat → Prop) → Prop} (M : MemI W m St) {R : World → (Nat → Prop) → Prop} (hR : Loc R) : MemI W m (fun A w G => QSt W (St A) R w G) where
  stay := fun A => QSt.stay (M.stay A) hR
  store := fun w G A ⟨C, h1, h2, h3, h4⟩ hok z q v => (M.store w _ A h1 hok z q v).mono fun e w' hd => hd.q hR h2 h3 h4
  lines := fun w G A ⟨C, h1, h2, h3, h4⟩ => M.lines w _ A h1
  load := fun w G A ⟨C, h1, h2, h3, h4⟩ hn z => (M.load w _ A h1 hn z).mono fun e w' hd => hd.q hR h2 h3 h4
  flush := fun w G A ⟨C, h1, h2, h3, h4⟩ hok y z => (M.flush w _ A h1 hok y z).mono fun e w' hd => hd.q hR h2 h3 h4
  fence := fun w G A ⟨C, h1, h2, h3, h4⟩ hok y => (M.fence w _ A h1 hok y).mono fun e w' hd => hd.q hR h2 h3 h4
  write := fun w G A ⟨C, h1, h2, h3, h4⟩ hok core slot s hs => (M.write w _ A h1 hok core slot s hs).mono fun e w' hd => hd.q hR h2 h3 h4
  find := fun w G A ⟨C, h1, h2, h3, h4⟩ hok => (M.find w _ A h1 hok).mono fun e w' hd => hd.q hR h2 h3 h4
  dir := fun w G A ⟨C, h1, h2, h3, h4⟩ hok fr root hz => M.dir w _ A h1 hok fr root hz
  scan := fun w G A ⟨C, h1, h2, h3, h4⟩ hok z => (M.scan w _ A h1 hok z).mono fun e w' ⟨v, he, ⟨D, d1, d2, d3, d4⟩, hs⟩ => by
    refine ⟨v, he, ⟨D, ⟨C, (M.stay A).ls _ _ _ d1 (fun k hk => ?_), hR _ _ _ h2 (fun k hk => hs k (Or.inr hk)), fun k hk hc => ?_, h4⟩, d2, fun k hk => d3 k (Or.inl hk), d4⟩, fun k hk => hs k (Or.inl hk)⟩
    · rcases hk with (hk | hk) | hk
      · exact Or.inl (Or.inl hk)
      · exact Or.inr hk
      · exact Or.inl (Or.inr hk)
    · rcases hk with hk | hk
      · exact h3 k hk hc
      · exact d3 k (Or.inr hc) hk

/-! ### kind -/
theorem ikind_any (z : Int) (hz : In64 z) (n : Nat) (hn : 1 ≤ n) (hn2 : n ≤ 2000) (w : World) :
    Calls Tryz.prog 49 #[.int .i64 z, .int .i64 (n : Int)] w fun e w' => e = .returned (.int .i64 ((kindN z n : Nat) : Int)) ∧ w' = w := by
  obtain ⟨z0, z1⟩ := hz
  by_cases hneg : z < 0
  · go_enter Tryz.func49, Tryz.ntmps49
    go_wp2
    go_ret
    refine ⟨oret_int ?_, rfl⟩
    unfold kindN
    rw [if_pos hneg]
    exact otmod_neg z hneg _ (by omega)
  · go_enter Tryz.func49, Tryz.ntmps49
    go_wp2
    go_ret
    refine ⟨oret_int ?_, rfl⟩
    unfold kindN
    rw [if_neg (by omega)]
    first | exact oemod_toNat z _ (by omega) | exact otmod_pos z (by omega) _ (by omega)

/-! ### the arguments -/
def obKs : List (Option IntKind) := [some .i64, some .i64] ++ List.replicate 8 (some .u64)
theorem fit_ob {cs : List Value} (h : AllFit obKs cs) : ∃ x : Ob, cs = obC x ∧ ObIn x := by
  have key : ∀ (ks : List (Option IntKind)) (cs : List Value), AllFit (some .i64 :: some .i64 :: ks) cs → ∃ z0 z1 ds, cs = .int .i64 z0 :: .int .i64 z1 :: ds ∧ (Lit.int .i64 z0).wf = true ∧ (Lit.int .i64 z1).wf = true ∧ AllFit ks ds := by
    intro ks cs h
    cases cs with
    | nil => exact h.elim
    | cons c0 r =>
      cases r with
      | nil => exact h.2.elim
      | cons c1 ds =>
        obtain ⟨⟨z0, e0, w0⟩, ⟨z1, e1, w1⟩, h⟩ := h
        exact ⟨z0, z1, ds, by rw [e0, e1], w0, w1, h⟩
  obtain ⟨z0, z1, ds, rfl, w0, w1, h'⟩ := key (List.replicate 8 (some .u64)) cs h
  · obtain ⟨zs, hl, hz, hw⟩ := allFit_ints .u64 8 ds h'
    refine ⟨⟨z0, z1, fun j => zs.getD j 0⟩, ?_, in64_wf w0, in64_wf w1, fun j => ?_⟩
    · have e : ds = (lnV fun j => zs.getD j 0).toList := by
        rw [hz]
        refine List.ext_getElem? fun j => ?_
        by_cases hj : j < 8
        · rw [Array.getElem?_toList (xs := lnV _), lnV_get _ _ hj, List.getElem?_map, List.getElem?_eq_getElem (by omega), List.getD_eq_getElem?_getD, List.getElem?_eq_getElem (by omega)]; rfl
        · rw [List.getElem?_eq_none (by rw [List.length_map]; omega), List.getElem?_eq_none (by rw [Array.length_toList, lnV_size]; omega)]
      show _ = (obV z0 z1 fun j => zs.getD j 0).toList
      unfold obV
      rw [Array.toList_append, ← e]; rfl
    · show InU (zs.getD j 0)
      by_cases hj : j < zs.length
      · rw [List.getD_eq_getElem?_getD, List.getElem?_eq_getElem hj]
        exact inU_wf (hw _ (List.getElem_mem hj))
      · rw [List.getD_eq_getElem?_getD, List.getElem?_eq_none (by omega)]
        show InU 0; exact ⟨by decide, by decide⟩
instance : Inhabited Ob := ⟨ob0⟩
theorem open_obs {H : Type} {enc : TypeId × Value → H} {W : World} {r : Reach} {b0 : Nat} {v : Value} {d : DataW H} {p : List MemPlace} (hv : Value.okWide Tryz.prog W r b0 101 v)
    (h : DataW.Trod enc Tryz.prog W 0 (fun _ => true) true 101 v d p) : ∃ (a : Option Addr) (cap : Nat) (l : List Ob), v = .slice a l.length cap ∧ l.length ≤ cap ∧ l.length ≤ 9223372036854775807 ∧ ObsAt W a l ∧ ∀ x ∈ l, ObIn x := by
  obtain ⟨a, len, cap, rfl⟩ := okWide_slice Tryz.underlying101 hv
  obtain ⟨fuel, hf⟩ := h
  have k10 : Tryz.prog.cellsOf 88 = 10 := by kernel_rfl
  rcases open_slice Tryz.underlying101 hf with ⟨hcs, _⟩ | ⟨x, l, c, m, n, D, Pl, hcs, hb, hl, hm, hmm, hd, hx⟩
  · simp [Value.cells] at hcs
    obtain ⟨rfl, rfl, rfl⟩ := hcs
    exact ⟨none, 0, [], rfl, by decide, by decide, Or.inl rfl, fun x hx => by cases hx⟩
  · simp [Value.cells] at hcs
    obtain ⟨rfl, rfl, rfl⟩ := hcs
    rw [k10] at hx
    have hlm : len ≤ m := by rw [hmm]; simp; exact hl
    unfold maxLen at hm
    obtain ⟨s, hs⟩ := choose_lt (α := Ob) (n := len) (p := fun i y => (∀ j, j < 10 → W.cell? (x.add (i * 10 + j)) = (obC y)[j]?) ∧ ObIn y) (fun i hi => by
      obtain ⟨cs', h1, h2⟩ := hx i (by omega)
      obtain ⟨_, hlen, hcell⟩ := World.cells?_some h1
      obtain ⟨y, rfl, hy⟩ := fit_ob (flat_of_trod (P := Tryz.prog) 4 88 (ks := obKs) (by kernel_rfl) h2)
      refine ⟨y, fun j hj => ?_, hy⟩
      have := hcell j hj
      rw [add_add] at this
      exact this)
    refine ⟨some x, cap, (List.range len).map s, by simp, by simpa using hl, by simp; omega, ?_, fun y hy => ?_⟩
    · by_cases h0 : len = 0
      · left; subst h0; rfl
      · right
        obtain ⟨b, off, spot⟩ := x
        have hspot : spot = none := by
          have h00 := (hs 0 (by omega)).1 0 (by omega)
          have : W.cell? ((⟨b, off, spot⟩ : Addr).add 0) = some (.int .i64 (s 0).k) := h00
          simpa [Addr.add] using World.cell?_spot this
        subst hspot
        refine ⟨b, off, rfl, fun i hi j u hj => ?_⟩
        have hi' : i < len := by simpa using hi
        have hj10 : j < 10 := by
          rcases Nat.lt_or_ge j 10 with q | q
          · exact q
          · rw [List.getElem?_eq_none (by rw [obC_len]; exact q)] at hj; cases hj
        have := (hs i hi').1 j hj10
        rw [Addr.add_mid] at this
        rw [show off + i * 10 + j = off + (i * 10 + j) by omega, this, ← hj]
        congr 2
        rw [List.getD_eq_getElem?_getD, List.getElem?_map, List.getElem?_range hi']; rfl
    · obtain ⟨i, hi, rfl⟩ := List.mem_map.1 hy
      exact (hs i (List.mem_range.1 hi)).2

theorem open_powerI {H : Type} {enc : TypeId × Value → H} {W : World} {r : Reach} {b0 : Nat} {v : Value} {d : DataW H} {p : List MemPlace}
    (hv : Value.okWide Tryz.prog W r b0 103 v) (h : DataW.Trod enc Tryz.prog W 0 (fun _ => true) true 103 v d p) :
    ∃ (z : Int) (a : Option Addr) (keep : List Int) (cap : Nat), v = .agg #[.int .i64 z, .slice a keep.length cap] ∧ In64 z ∧ IntsAt W a keep ∧ (∀ z ∈ keep, In64 z) ∧ keep.length ≤ 9223372036854775807 := by
  obtain ⟨fuel, hf⟩ := h
  have : ∃ cs, v = .agg cs ∧ cs.size = 2 := by
    simp only [Value.okWide, Tryz.underlying103] at hv
    obtain ⟨cs, h1, h2⟩ := hv
    refine ⟨cs, h1, ?_⟩
    subst h1
    obtain ⟨xs, k, hk, hxy, hcl, hxl, hf2⟩ := DataW.trod_struct Tryz.underlying103 hf
    have : Tryz.prog.cellsOf 103 = 2 := by kernel_rfl
    simpa [Value.cells, this] using hcl
  obtain ⟨cs, rfl, hsz⟩ := this
  obtain ⟨xs, k, hk, hxy, hcl, hxl, hf2⟩ := DataW.trod_struct Tryz.underlying103 hf
  have hlen : xs.length = 2 := by simpa using hxl
  have hl2 : cs.toList.length = 2 := by simpa using hsz
  have k1 : Tryz.prog.cellsOf 3 = 1 := by kernel_rfl
  have k3 : Tryz.prog.cellsOf 85 = 1 := by kernel_rfl
  match hcs : cs.toList, hl2, xs, hlen with
  | [c0, c1], _, [y0, y1], _ =>
    have g0 := hf2 0 _ rfl
    have g1 := hf2 1 _ rfl
    simp [k1, k3, Value.cells, hcs] at g0 g1
    obtain ⟨z0, e0, _, w0⟩ := DataW.trod_int Tryz.underlying3 g0
    obtain ⟨a, zs, n, cap, e1, hr⟩ := row_of_trod Tryz.underlying85 Tryz.underlying3 (by kernel_rfl) g1
    simp at e0
    subst e0 e1
    obtain ⟨q1, q2, q3⟩ := hr.keep
    refine ⟨z0, a, zs, cap, ?_, in64_wf w0, q1, q2, q3⟩
    rw [← Array.toArray_toList (xs := cs), hcs, hr.1]

end Go.Proofs.YtiafhcgaikapcaaGreat
