
/-
  A row of ints of the call's own that grows, beside other blocks of its own: what an append, a store, a call leave; the document's test of the names.
-/
import Derived.Test.YtnjicfnigfkppaaPkDir
import Derived.Test.YtnjicfnigfkppaaXRDiff
import Derived.Test.YtnjicfnigfkppaaXRRead
import Derived.Test.YtnjicfnigfkppaaNTwo
import Derived.Maps.AppendAt
namespace Go.Proofs.Ytnjicfnigfkppaa
open Go.ChangeShapes Go.WideShapes Go.ChangeAt Go.RowKit Go.Joins
set_option maxRecDepth 10000
set_option linter.unusedVariables false
set_option linter.unusedSimpArgs false

def RowSt (W w : World) (v : Value) (zs : List Int) (L : List (Nat × Obj)) : Prop :=
  Keeps (fun _ => False) W w ∧ RowX W.heap.size v zs w ∧ ∀ p ∈ L, w.heap[p.1]? = some p.2 ∧ v.ownBlock ≠ some p.1 ∧ W.heap.size ≤ p.1
section
variable {W w w' : World} {v : Value} {zs : List Int} {L L' : List (Nat × Obj)}
theorem RowSt.at (h : RowSt W w v zs L) (g : Nat) (o : Obj) (hm : (g, o) ∈ L) : w.heap[g]? = some o := (h.2.2 _ hm).1
theorem RowSt.kp (h : RowSt W w v zs L) : Keeps (fun _ => False) W w := h.1
theorem RowSt.lt (h : RowSt W w v zs L) : ∀ p ∈ L, p.1 < w.heap.size := fun p hp => lt_of_heap (h.2.2 p hp).1
theorem RowSt.keeps (h : RowSt W w v zs L) (hk : Keeps (fun _ => False) w w') : RowSt W w' v zs L :=
  ⟨h.1.trans' hk, h.2.1.same fun k e => hk.block k (h.2.1.lt k e).2 id, fun p hp => ⟨(hk.block _ (h.lt p hp) id).trans (h.2.2 p hp).1, (h.2.2 p hp).2⟩⟩
theorem RowSt.below (h : RowSt W w v zs L) (hb : Below w.heap.size w w') : RowSt W w' v zs L := h.keeps (Keeps.of_below hb)
theorem RowSt.alloc (h : RowSt W w v zs L) (o : Obj) : RowSt W (w.alloc o) v zs ((w.heap.size, o) :: L) := by
  have h1 := h.keeps ((Keeps.refl _ w).alloc o)
  refine ⟨h1.1, h1.2.1, fun p hp => ?_⟩
  rcases List.mem_cons.1 hp with rfl | hp
  · exact ⟨heap_new w o, fun e => by have := (h.2.1.lt _ e).2; simp at this, h.1.size⟩
  · exact h1.2.2 p hp
theorem RowSt.less (h : RowSt W w v zs L) (hs : ∀ p ∈ L', p ∈ L) : RowSt W w v zs L' := ⟨h.1, h.2.1, fun p hp => h.2.2 p (hs p hp)⟩
theorem RowSt.turn (h : RowSt W w v zs L) (g : Nat) (o o' : Obj) (hm : (g, o) ∈ L) (hk : Keeps (· = g) w w') (ho : w'.heap[g]? = some o') : RowSt W w' v zs ((g, o') :: L.filter fun p => p.1 != g) := by
  obtain ⟨q1, q2, q3⟩ := h.2.2 _ hm
  refine ⟨⟨hk.os.trans h.1.os, hk.tape.trans h.1.tape, hk.output.trans h.1.output, Nat.le_trans h.1.size hk.size, fun k hk' _ => (hk.block k (Nat.lt_of_lt_of_le hk' h.1.size) (fun e => by subst e; simp at q3; omega)).trans (h.1.block k hk' id)⟩, h.2.1.same fun k e => hk.block k (h.2.1.lt k e).2 (fun e2 => q2 (by rw [e, e2])), fun p hp => ?_⟩
  rcases List.mem_cons.1 hp with rfl | hp
  · exact ⟨ho, q2, q3⟩
  · rw [List.mem_filter] at hp
    have hne : p.1 ≠ g := by simpa using hp.2
    exact ⟨(hk.block _ (h.lt p hp.1) hne).trans (h.2.2 p hp.1).1, (h.2.2 p hp.1).2⟩
theorem RowSt.row (h : RowSt W w v zs L) (g : Nat) (ds : Array Value) (t : TypeId) (fr : Nat × Nat) (hm : (g, .cells ds t fr) ∈ L) (cs : Array Value) : RowSt W (w.setRow g cs) v zs ((g, .cells cs t fr) :: L.filter fun p => p.1 != g) :=
  h.turn g _ _ hm (Keeps.setRow (F := (· = g)) (Keeps.refl _ _) (Or.inl rfl) _) (setRow_heap _ _ _ _ _ _ (h.at g _ hm))
theorem RowSt.put3 (h : RowSt W w v zs L) (g : Nat) (xs : List Int) (t : TypeId) (fr : Nat × Nat) (hm : (g, .cells (iv .i64 xs) t fr) ∈ L) (i : Nat) (c : En) : RowSt W (w.setCells g (i * 3) (ev c).toList) v zs ((g, .cells (iv .i64 (Go.Proofs.Ytnjicfnigfkppaa.put3 xs i c)) t fr) :: L.filter fun p => p.1 != g) :=
  h.turn g _ _ hm (Keeps.setCells (F := (· = g)) (Or.inl rfl) _ _ _ (Keeps.refl _ _)) (block_put3 xs (h.at g _ hm) i c)
end
theorem rowSt_start {W w : World} {L : List (Nat × Obj)} (hk : Keeps (fun _ => False) W w) (hL : ∀ p ∈ L, w.heap[p.1]? = some p.2 ∧ W.heap.size ≤ p.1) (z : Int) : RowSt W (w.alloc (.cells #[.int .i64 z] 3)) (.slice (some ⟨w.heap.size, 0, none⟩) 1 1) [z] L := by
  refine ⟨hk.alloc _, World.ownsRow_lit (base := W.heap.size) (e := 3) (size := 1) w #[.int .i64 z] 1 hk.size (by decide) rfl, fun p hp => ?_⟩
  have hlt := lt_of_heap (hL p hp).1
  exact ⟨(Below.heap_alloc _ _ _ hlt).trans (hL p hp).1, fun e => by simp [Value.ownBlock] at e; omega, (hL p hp).2⟩
/-- One more int behind the row. -/
theorem push_st {W w : World} {v : Value} {zs : List Int} {L : List (Nat × Obj)} {ops : Array Oper} {rest : List Oper} {o : Oper} {a : Act} {Q : Exit → Act → World → Prop} (z : Int) (hgd : o.guard = none) (s x : Operand) (ho : o.op = .call { callee := .builtin .append, args := #[s, x], argTypes := #[43, 43] })
    (hs : a.eval s = v) (hst : RowSt W w v zs L) (hx : a.eval x = .slice (some ⟨w.heap.size, 0, none⟩) 1 1) (hlen : zs.length < 1000)
    (h : ∀ v' w', RowSt W w' v' (zs ++ [z]) L → wpList Try.prog ops Q rest (a.put o.dst v') w') :
    wpList Try.prog ops Q (o :: rest) a (w.alloc (.cells #[.int .i64 z] 3)) := by
  obtain ⟨i0, hi, hz0, hz1, hz2⟩ := info_parts info_int
  have h1 := hst.alloc (.cells #[.int .i64 z] 3)
  refine wpList_append_own_at _ hgd s x 43 ho W.heap.size 3 i0 (.int .i64 0) 1 8 Try.underlying43 hi hz0 hz1 hz2 rfl (by decide) v zs.length (intsX zs) hs h1.2.1 ⟨w.heap.size, 0, none⟩ 1 1 [.int .i64 z] hx rfl ?_ ?_ ?_ ?_ ?_ ?_
  · intro j u hj
    match j, hj with
    | 0, hj =>
      simp at hj; subst hj
      rw [show (⟨w.heap.size, 0, none⟩ : Addr).add 0 = ⟨w.heap.size, 0, none⟩ from rfl, cell_of_block (heap_new w _)]; rfl
    | j + 1, hj => simp at hj
  · intro u hu; simp at hu; subst hu; rfl
  · unfold maxLen; omega
  · omega
  · exact h1.1.size
  · intro v' w' h2 h3 _ h5
    refine h v' w' ⟨h1.1.grown h3 (fun k e => Or.inr (h1.2.1.lt k e).1), ?_, fun p hp => ?_⟩
    · show w'.ownsRow W.heap.size 3 1 v' (zs ++ [z]).length (intsX (zs ++ [z]))
      rw [List.length_append, show intsX (zs ++ [z]) = intsX zs ++ [.int .i64 z] by simp [intsX]]
      exact h2
    · obtain ⟨q1, q2, q3⟩ := h1.2.2 p (List.mem_cons_of_mem _ hp)
      have hlt := lt_of_heap q1
      refine ⟨(h3.block _ hlt (fun e => q2 e.symm)).trans q1, fun e => ?_, q3⟩
      rcases h5 with h5 | h5
      · exact q2 (h5.symm.trans e)
      · rw [h5] at e
        have : (w.alloc (.cells #[.int .i64 z] 3)).heap.size = p.1 := by simpa using e
        omega

/-! ### what a drawn end leaves -/
def OutS (W : World) (gA gB : Nat) (VA VB : List Int) (w' : World) : Prop :=
  Keeps (fun _ => False) W w' ∧ (∃ X0 : Array Value, w'.heap[W.heap.size]? = some (.cells X0 24 (0, 0)) ∧ X0.size = 147) ∧ (∃ Y0 : Array Value, w'.heap[W.heap.size + 1]? = some (.cells Y0 37 (0, 0)) ∧ Y0.size = 7) ∧
    w'.heap[gA]? = some (.cells (iv .i64 VA) 24 (0, 0)) ∧ w'.heap[gB]? = some (.cells (iv .i64 VB) 37 (0, 0))
theorem OutS.drew {W w' : World} {gA gB : Nat} {VA VB : List Int} (h : OutS W gA gB VA VB w') : OutS W gA gB VA VB w'.drew := ⟨h.1.drew, h.2⟩
theorem OutS.rA {W w' : World} {gA gB : Nat} {VA VB : List Int} (h : OutS W gA gB VA VB w') : w'.rangeAt gA 0 (iv .i64 VA).toList := fun m u hu => by
  rw [cell_of_block h.2.2.2.1, Nat.zero_add, ← Array.getElem?_toList]; exact hu
theorem OutS.rB {W w' : World} {gA gB : Nat} {VA VB : List Int} (h : OutS W gA gB VA VB w') : w'.rangeAt gB 0 (iv .i64 VB).toList := fun m u hu => by
  rw [cell_of_block h.2.2.2.2, Nat.zero_add, ← Array.getElem?_toList]; exact hu
theorem OutS.one {W w' : World} {gA gB : Nat} {VA VB : List Int} (h : OutS W gA gB VA VB w') (hA : gA ≠ W.heap.size) (hB : gB ≠ W.heap.size) (cs : Array Value) (hs : cs.size = 147) : OutS W gA gB VA VB (w'.setRow W.heap.size cs) := by
  obtain ⟨k, ⟨X0, x1, x2⟩, ⟨Y0, y1, y2⟩, a, b⟩ := h
  exact ⟨Keeps.setRow k (Or.inr (Nat.le_refl _)) _, ⟨cs, setRow_heap _ _ _ _ _ _ x1, hs⟩, ⟨Y0, (setRow_other _ _ _ _ (by omega)).trans y1, y2⟩, (setRow_other _ _ _ _ hA).trans a, (setRow_other _ _ _ _ hB).trans b⟩
theorem OutS.two {W w' : World} {gA gB : Nat} {VA VB : List Int} (h : OutS W gA gB VA VB w') (hA : gA ≠ W.heap.size + 1) (hB : gB ≠ W.heap.size + 1) (cs : Array Value) (hs : cs.size = 7) : OutS W gA gB VA VB (w'.setRow (W.heap.size + 1) cs) := by
  obtain ⟨k, ⟨X0, x1, x2⟩, ⟨Y0, y1, y2⟩, a, b⟩ := h
  exact ⟨Keeps.setRow k (Or.inr (by omega)) _, ⟨X0, (setRow_other _ _ _ _ (by omega)).trans x1, x2⟩, ⟨cs, setRow_heap _ _ _ _ _ _ y1, hs⟩, (setRow_other _ _ _ _ hA).trans a, (setRow_other _ _ _ _ hB).trans b⟩
theorem yieldsIf_build0 {P : Program} {ops : Array Oper} {S : World → Prop} {op : Oper} {a : Act} (hw : Region.wanted op (yielded ops a.tmps) = true) (t : TypeId) (ho : op.op = .build t #[]) (cs : Array Value) (hb : P.built t [] = some cs) : YieldsIf P ops S op (.agg cs) a :=
  .inl ⟨hw, fun w _ => by
    unfold execOp
    simp only [ho, Sem.run_bind, Array.map_empty, run_build w t #[] cs hb, Result.andThen_ok, Sem.run_pure]⟩
theorem build147o : Try.prog.built 24 [] = some (iv .i64 (zrow 49)) := by
  rw [zrow_zero]; kernel_rfl
theorem zero147o : Try.zeroCells24 = iv .i64 (zrow 49) := by rw [zrow_zero]; kernel_rfl

/-! ### the document's test of the names -/
def nbB (n : Nat) (fr : Int) (ns : List Int) (i : Nat) : Nat → Bool
  | 0 => decide (ns.getD i 0 < fr) || decide ((n : Int) ≤ ns.getD i 0)
  | m + 1 => nbB n fr ns i m || (ns.getD m 0 == ns.getD i 0)
theorem nbB_iff (n : Nat) (fr : Int) (ns : List Int) (i : Nat) : ∀ m, nbB n fr ns i m = false ↔ (fr ≤ ns.getD i 0 ∧ ns.getD i 0 < n) ∧ ∀ j, j < m → ns.getD j 0 ≠ ns.getD i 0
  | 0 => by
    unfold nbB
    rw [Bool.or_eq_false_iff, decide_eq_false_iff_not, decide_eq_false_iff_not]
    constructor
    · intro h; exact ⟨by omega, fun j hj => by omega⟩
    · intro h; omega
  | m + 1 => by
    rw [nbB, Bool.or_eq_false_iff, nbB_iff n fr ns i m, beq_eq_false_iff_ne]
    constructor
    · rintro ⟨⟨h1, h2⟩, h3⟩
      refine ⟨h1, fun j hj => ?_⟩
      by_cases e : j = m
      · subst e; exact h3
      · exact h2 j (by omega)
    · rintro ⟨h1, h2⟩
      exact ⟨⟨h1, fun j hj => h2 j (by omega)⟩, h2 m (by omega)⟩
theorem okD_of (n : Nat) (fr : Int) (ns : List Int) (h0 : ∀ z ∈ ns, 0 ≤ z) (h : ∀ i, i < ns.length → nbB n fr ns i i = false) : okN n fr ns = true := by
  rw [okN_iff]
  have hg : ∀ i (hi : i < ns.length), ns.getD i 0 = ns[i] := fun i hi => by rw [List.getD_eq_getElem?_getD, List.getElem?_eq_getElem hi]; rfl
  refine ⟨fun z hz => ?_, ?_⟩
  · obtain ⟨i, hi, rfl⟩ := List.getElem_of_mem hz
    have := ((nbB_iff n fr ns i i).1 (h i hi)).1
    rw [hg i hi] at this
    exact ⟨h0 _ hz, this⟩
  · rw [List.nodup_iff_pairwise_ne, List.pairwise_iff_getElem]
    intro i j hi hj hij e
    have := ((nbB_iff n fr ns j j).1 (h j hj)).2 i hij
    rw [hg i hi, hg j hj] at this
    exact this e
theorem okD_not (n : Nat) (fr : Int) (ns : List Int) (i : Nat) (hi : i < ns.length) (h : nbB n fr ns i i = true) : okN n fr ns = false := bool_not fun hh => by
  rw [okN_iff] at hh
  have hg : ∀ i (hi : i < ns.length), ns.getD i 0 = ns[i] := fun i hi => by rw [List.getD_eq_getElem?_getD, List.getElem?_eq_getElem hi]; rfl
  have : nbB n fr ns i i = false := (nbB_iff n fr ns i i).2 (by
    have h1 := hh.1 ns[i] (List.getElem_mem hi)
    refine ⟨by rw [hg i hi]; exact h1.2, fun j hj e => ?_⟩
    have h2 := hh.2
    rw [List.nodup_iff_pairwise_ne, List.pairwise_iff_getElem] at h2
    rw [hg j (by omega), hg i hi] at e
    exact h2 j i (by omega) hi hj e)
  rw [this] at h; cases h
theorem nsTo_nonneg (A : Mm) (root : Int) (h0 : 0 ≤ root) (ht : isT (lineA A root.toNat) = true) (hx : ∀ k, k < 7 → isX (leafA A root k) = true) : ∀ k, k ≤ 7 → ∀ z ∈ nsTo A root k, 0 ≤ z
  | 0, _, z, hz => by simp [nsTo] at hz; omega
  | k + 1, hk, z, hz => by
    rw [nsTo, List.mem_append, List.mem_append] at hz
    rcases hz with (hz | hz) | hz
    · exact nsTo_nonneg A root h0 ht hx k (by omega) z hz
    · rw [List.mem_singleton] at hz; subst hz; exact (lsA_bd A root ht k (by omega)).1
    · exact objTo_may _ (fun i hi => readX_l _ (hx k (by omega)) i hi) 7 (by omega) z hz

end Go.Proofs.Ytnjicfnigfkppaa
