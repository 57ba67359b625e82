
/-
  A row of ints of the call's own that grows, beside other blocks of its own (out of XDiff, XShown, XRowSt, without radix).
-/
import Derived.Test.YtjmgmbigbkllgaaORoom
import Derived.Test.YtjmgmbigbkllgaaOKept
import Derived.OwnWalk
import Derived.BigQuiet
import Derived.Maps.AppendAt
namespace Go.Proofs.Ytjmgmbigbkllgaa
open Go.ChangeShapes Go.WideShapes Go.ChangeAt Go.RowKit Go.Joins
set_option maxRecDepth 10000
set_option linter.unusedVariables false
set_option linter.unusedSimpArgs false

def intsX (zs : List Int) : List Value := zs.map (Value.int .i64)
theorem lt_of_heapO {w : World} {g : Nat} {o : Obj} (h : w.heap[g]? = some o) : g < w.heap.size := by
  rcases Nat.lt_or_ge g w.heap.size with h' | h'
  · exact h'
  · rw [Array.getElem?_eq_none h'] at h; cases h
def RowX (base : Nat) (v : Value) (zs : List Int) (w : World) : Prop := w.ownsRow base 3 1 v zs.length (intsX zs)
theorem info_int : (Try.prog.info? 3).map (fun i => (i.zero, i.size, i.bytes)) = some (some (.int .i64 0), 1, 8) := by kernel_rfl
theorem RowX.nil (base : Nat) (w : World) : RowX base (.slice none 0 0) [] w := World.ownsRow_nil w base 3 1
theorem RowX.same {w w' : World} {base : Nat} {v : Value} {zs : List Int} (h : RowX base v zs w) (hs : ∀ k, v.ownBlock = some k → w'.heap[k]? = w.heap[k]?) : RowX base v zs w' := by
  refine ⟨h.1, ?_⟩
  rcases h.2 with h' | ⟨g, cap, cur, rfl, h1, h2, h3⟩
  · exact Or.inl h'
  · exact Or.inr ⟨g, cap, cur, rfl, h1, (hs g rfl).trans h2, h3⟩
theorem RowX.lt {w : World} {base : Nat} {v : Value} {zs : List Int} (h : RowX base v zs w) : ∀ k, v.ownBlock = some k → base ≤ k ∧ k < w.heap.size := World.ownsRow.lt h
theorem RowX.below {w w' : World} {base : Nat} {v : Value} {zs : List Int} (h : RowX base v zs w) (hb : Below w.heap.size w w') : RowX base v zs w' :=
  h.same fun k hk => hb.block k (h.lt k hk).2
theorem RowX.mono {w : World} {base base' : Nat} {v : Value} {zs : List Int} (h : RowX base v zs w) (hb : base' ≤ base) : RowX base' v zs w := by
  refine ⟨h.1, ?_⟩
  rcases h.2 with h' | ⟨g, cap, cur, rfl, h1, h2⟩
  · exact Or.inl h'
  · exact Or.inr ⟨g, cap, cur, rfl, Nat.le_trans hb h1, h2⟩
theorem RowX.cell {w : World} {base : Nat} {v : Value} {zs : List Int} (h : RowX base v zs w) (hne : zs ≠ []) : ∃ g cap, v = .slice (some ⟨g, 0, none⟩) zs.length cap ∧ base ≤ g ∧ zs.length ≤ cap ∧ ∀ i, i < zs.length → w.cell? ⟨g, i, none⟩ = some (.int .i64 (zs.getD i 0)) := by
  have hl : 0 < zs.length := List.length_pos_iff.2 hne
  rcases h.2 with ⟨rfl, h'⟩ | ⟨g, cap, cur, rfl, h1, h2, h3, h4, h5, h6⟩
  · omega
  · refine ⟨g, cap, rfl, h1, h3, fun i hi => ?_⟩
    rw [cell_of_block h2]
    have : (cur.toList.take (zs.length * 1))[i]? = some (.int .i64 (zs.getD i 0)) := by rw [h6]; simp [intsX, hi]
    rw [List.getElem?_take, if_pos (by omega), Array.getElem?_toList] at this
    exact this
theorem RowX.one {w : World} {base : Nat} {v : Value} {z : Int} (h : RowX base v [z] w) : ∃ g cap, v = .slice (some ⟨g, 0, none⟩) 1 cap ∧ w.cell? ⟨g, 0, none⟩ = some (.int .i64 z) ∧ 1 ≤ cap := by
  obtain ⟨g, cap, h1, -, h3, h4⟩ := h.cell (by simp)
  exact ⟨g, cap, h1, h4 0 (by simp), h3⟩

def RowSt (W w : World) (v : Value) (zs : List Int) (L : List (Nat × Obj)) : Prop :=
  Keeps (fun _ => False) W w ∧ RowX W.heap.size v zs w ∧ ∀ p ∈ L, w.heap[p.1]? = some p.2 ∧ v.ownBlock ≠ some p.1 ∧ W.heap.size ≤ p.1
section
variable {W w w' : World} {v : Value} {zs : List Int} {L L' : List (Nat × Obj)}
theorem RowSt.at (h : RowSt W w v zs L) (g : Nat) (o : Obj) (hm : (g, o) ∈ L) : w.heap[g]? = some o := (h.2.2 _ hm).1
theorem RowSt.kp (h : RowSt W w v zs L) : Keeps (fun _ => False) W w := h.1
theorem RowSt.lt (h : RowSt W w v zs L) : ∀ p ∈ L, p.1 < w.heap.size := fun p hp => lt_of_heapO (h.2.2 p hp).1
theorem RowSt.keeps (h : RowSt W w v zs L) (hk : Keeps (fun _ => False) w w') : RowSt W w' v zs L :=
  ⟨h.1.trans' hk, h.2.1.same fun k e => hk.block k (h.2.1.lt k e).2 id, fun p hp => ⟨(hk.block _ (h.lt p hp) id).trans (h.2.2 p hp).1, (h.2.2 p hp).2⟩⟩
theorem RowSt.below (h : RowSt W w v zs L) (hb : Below w.heap.size w w') : RowSt W w' v zs L := h.keeps (Keeps.of_below hb)
theorem RowSt.alloc (h : RowSt W w v zs L) (o : Obj) : RowSt W (w.alloc o) v zs ((w.heap.size, o) :: L) := by
  have h1 := h.keeps ((Keeps.refl _ w).alloc o)
  refine ⟨h1.1, h1.2.1, fun p hp => ?_⟩
  rcases List.mem_cons.1 hp with rfl | hp
  · exact ⟨heap_new w o, fun e => by have := (h.2.1.lt _ e).2; simp at this, h.1.size⟩
  · exact h1.2.2 p hp
theorem RowSt.less (h : RowSt W w v zs L) (hs : ∀ p ∈ L', p ∈ L) : RowSt W w v zs L' := ⟨h.1, h.2.1, fun p hp => h.2.2 p (hs p hp)⟩
theorem RowSt.turn (h : RowSt W w v zs L) (g : Nat) (o o' : Obj) (hm : (g, o) ∈ L) (hk : Keeps (· = g) w w') (ho : w'.heap[g]? = some o') : RowSt W w' v zs ((g, o') :: L.filter fun p => p.1 != g) := by
  obtain ⟨q1, q2, q3⟩ := h.2.2 _ hm
  refine ⟨⟨hk.os.trans h.1.os, hk.tape.trans h.1.tape, hk.output.trans h.1.output, Nat.le_trans h.1.size hk.size, fun k hk' _ => (hk.block k (Nat.lt_of_lt_of_le hk' h.1.size) (fun e => by subst e; simp at q3; omega)).trans (h.1.block k hk' id)⟩, h.2.1.same fun k e => hk.block k (h.2.1.lt k e).2 (fun e2 => q2 (by rw [e, e2])), fun p hp => ?_⟩
  rcases List.mem_cons.1 hp with rfl | hp
  · exact ⟨ho, q2, q3⟩
  · rw [List.mem_filter] at hp
    have hne : p.1 ≠ g := by simpa using hp.2
    exact ⟨(hk.block _ (h.lt p hp.1) hne).trans (h.2.2 p hp.1).1, (h.2.2 p hp.1).2⟩
theorem RowSt.row (h : RowSt W w v zs L) (g : Nat) (ds : Array Value) (t : TypeId) (fr : Nat × Nat) (hm : (g, .cells ds t fr) ∈ L) (cs : Array Value) : RowSt W (w.setRow g cs) v zs ((g, .cells cs t fr) :: L.filter fun p => p.1 != g) :=
  h.turn g _ _ hm (Keeps.setRow (F := (· = g)) (Keeps.refl _ _) (Or.inl rfl) _) (setRow_heap _ _ _ _ _ _ (h.at g _ hm))
end
theorem rowSt_start {W w : World} {L : List (Nat × Obj)} (hk : Keeps (fun _ => False) W w) (hL : ∀ p ∈ L, w.heap[p.1]? = some p.2 ∧ W.heap.size ≤ p.1) (z : Int) : RowSt W (w.alloc (.cells #[.int .i64 z] 3)) (.slice (some ⟨w.heap.size, 0, none⟩) 1 1) [z] L := by
  refine ⟨hk.alloc _, World.ownsRow_lit (base := W.heap.size) (e := 3) (size := 1) w #[.int .i64 z] 1 hk.size (by decide) rfl, fun p hp => ?_⟩
  have hlt := lt_of_heapO (hL p hp).1
  exact ⟨(Below.heap_alloc _ _ _ hlt).trans (hL p hp).1, fun e => by simp [Value.ownBlock] at e; omega, (hL p hp).2⟩
/-- One more int behind the row. -/
theorem push_st {W w : World} {v : Value} {zs : List Int} {L : List (Nat × Obj)} {ops : Array Oper} {rest : List Oper} {o : Oper} {a : Act} {Q : Exit → Act → World → Prop} (z : Int) (hgd : o.guard = none) (s x : Operand) (ho : o.op = .call { callee := .builtin .append, args := #[s, x], argTypes := #[72, 72] })
    (hs : a.eval s = v) (hst : RowSt W w v zs L) (hx : a.eval x = .slice (some ⟨w.heap.size, 0, none⟩) 1 1) (hlen : zs.length < 1000)
    (h : ∀ v' w', RowSt W w' v' (zs ++ [z]) L → wpList Try.prog ops Q rest (a.put o.dst v') w') :
    wpList Try.prog ops Q (o :: rest) a (w.alloc (.cells #[.int .i64 z] 3)) := by
  obtain ⟨i0, hi, hz0, hz1, hz2⟩ := info_parts info_int
  have h1 := hst.alloc (.cells #[.int .i64 z] 3)
  refine wpList_append_own_at _ hgd s x 72 ho W.heap.size 3 i0 (.int .i64 0) 1 8 Try.underlying72 hi hz0 hz1 hz2 rfl (by decide) v zs.length (intsX zs) hs h1.2.1 ⟨w.heap.size, 0, none⟩ 1 1 [.int .i64 z] hx rfl ?_ ?_ ?_ ?_ ?_ ?_
  · intro j u hj
    match j, hj with
    | 0, hj =>
      simp at hj; subst hj
      rw [show (⟨w.heap.size, 0, none⟩ : Addr).add 0 = ⟨w.heap.size, 0, none⟩ from rfl, cell_of_block (heap_new w _)]; rfl
    | j + 1, hj => simp at hj
  · intro u hu; simp at hu; subst hu; rfl
  · unfold maxLen; omega
  · omega
  · exact h1.1.size
  · intro v' w' h2 h3 _ h5
    refine h v' w' ⟨h1.1.grown h3 (fun k e => Or.inr (h1.2.1.lt k e).1), ?_, fun p hp => ?_⟩
    · show w'.ownsRow W.heap.size 3 1 v' (zs ++ [z]).length (intsX (zs ++ [z]))
      rw [List.length_append, show intsX (zs ++ [z]) = intsX zs ++ [.int .i64 z] by simp [intsX]]
      exact h2
    · obtain ⟨q1, q2, q3⟩ := h1.2.2 p (List.mem_cons_of_mem _ hp)
      have hlt := lt_of_heapO q1
      refine ⟨(h3.block _ hlt (fun e => q2 e.symm)).trans q1, fun e => ?_, q3⟩
      rcases h5 with h5 | h5
      · exact q2 (h5.symm.trans e)
      · rw [h5] at e
        have : (w.alloc (.cells #[.int .i64 z] 3)).heap.size = p.1 := by simpa using e
        omega

/-! ### what a drawn end leaves -/

theorem RowX.lies {w : World} {base : Nat} {v : Value} {zs : List Int} (h : RowX base v zs w) : ∃ a cap, v = .slice a zs.length cap ∧ LiesI w a zs := by
  by_cases hz : zs = []
  · subst hz
    rcases h.2 with ⟨h', _⟩ | ⟨g', cap, cur, h', _⟩
    · exact ⟨none, 0, h', Or.inl rfl⟩
    · exact ⟨_, cap, h', Or.inl rfl⟩
  · obtain ⟨g, cap, rfl, -, -, hc⟩ := h.cell hz
    exact ⟨some ⟨g, 0, none⟩, cap, rfl, Or.inr ⟨g, 0, rfl, fun i hi => by rw [Nat.zero_add]; exact hc i hi⟩⟩

/-- Blocks that a grown world has beside the state: each as if it were laid. -/
theorem Held.grows {W : World} {St : World → (Nat → Prop) → Prop} {w0 w w' : World} {G : Nat → Prop} {L : List (Nat × Obj)} (S : Stay W St) (h : Held W St w0 w G L) (hk : Keeps (fun _ => False) w w') :
    ∀ d, w.heap.size + d ≤ w'.heap.size → ∃ u L', Held W St w0 u G L' ∧ Keeps (fun _ => False) u w' ∧ u.heap.size = w.heap.size + d ∧ (∀ k, w.heap.size ≤ k → k < w.heap.size + d → ∃ o, (k, o) ∈ L' ∧ w'.heap[k]? = some o) ∧ ∀ p ∈ L, p ∈ L'
  | 0, _ => ⟨w, L, h, hk, rfl, fun k h1 h2 => by omega, fun p hp => hp⟩
  | d + 1, hd => by
    obtain ⟨u, L', h1, h2, h3, h4, h5⟩ := Held.grows S h hk d (by omega)
    obtain ⟨o, ho⟩ : ∃ o, w'.heap[u.heap.size]? = some o := ⟨w'.heap[u.heap.size]'(by omega), Array.getElem?_eq_getElem _⟩
    refine ⟨u.alloc o, (u.heap.size, o) :: L', h1.alloc S o, keeps_made h2 ho, by simp; omega, fun k k1 k2 => ?_, fun p hp => List.mem_cons_of_mem _ (h5 p hp)⟩
    by_cases e : k = u.heap.size
    · exact ⟨o, by rw [e]; exact List.mem_cons_self, by rw [e]; exact ho⟩
    · obtain ⟨o', q1, q2⟩ := h4 k k1 (by omega)
      exact ⟨o', List.mem_cons_of_mem _ q1, q2⟩
theorem Held.joins {W : World} {St : World → (Nat → Prop) → Prop} {w0 w w' : World} {G : Nat → Prop} {L : List (Nat × Obj)} (S : Stay W St) (h : Held W St w0 w G L) (hk : Keeps (fun _ => False) w w') (g : Nat) (o : Obj) (hg : w.heap.size ≤ g) (ho : w'.heap[g]? = some o) : Held W St w0 w' G ((g, o) :: L) := by
  have hlt := lt_of_heapO ho
  obtain ⟨u, L', h1, h2, h3, h4, h5⟩ := Held.grows S h hk (w'.heap.size - w.heap.size) (by omega)
  refine (h1.keeps S h2).less S (fun p hp => ?_)
  rcases List.mem_cons.1 hp with rfl | hp
  · obtain ⟨o', q1, q2⟩ := h4 g hg (by omega)
    rw [ho] at q2
    rw [Option.some.inj q2]; exact q1
  · exact h5 p hp

/-- The row beside the state: it lies there as long as its block stays. -/
theorem held_row {W : World} {St : World → (Nat → Prop) → Prop} {w0 w' : World} {G : Nat → Prop} {v : Value} {zs : List Int} (S : Stay W St) (h : St w0 G) (hk : Keeps (fun _ => False) w0 w') (hr : RowX w0.heap.size v zs w') :
    ∃ a cap Lr, v = .slice a zs.length cap ∧ Held W St w0 w' G Lr ∧ ∀ w2 : World, (∀ p ∈ Lr, w2.heap[p.1]? = some p.2) → LiesI w2 a zs := by
  have h0 : Held W St w0 w' G [] := (Held.start S h).keeps S hk
  obtain ⟨a, cap, hv, hl⟩ := hr.lies
  cases hb : v.ownBlock with
  | none => exact ⟨a, cap, [], hv, h0, fun w2 _ => by
      obtain ⟨a', cap', hv', hl'⟩ := (hr.same (w' := w2) (fun k e => by rw [hb] at e; cases e)).lies
      rw [hv] at hv'
      obtain ⟨rfl, -, -⟩ := Value.slice.inj hv'
      exact hl'⟩
  | some g =>
    obtain ⟨hg, hlt⟩ := hr.lt g hb
    obtain ⟨o, ho⟩ : ∃ o, w'.heap[g]? = some o := ⟨w'.heap[g]'hlt, Array.getElem?_eq_getElem _⟩
    refine ⟨a, cap, [(g, o)], hv, (Held.start S h).joins S hk g o hg ho, fun w2 hp => ?_⟩
    obtain ⟨a', cap', hv', hl'⟩ := (hr.same (w' := w2) (fun k e => by
      rw [hb] at e; cases e
      rw [ho]; exact hp (g, o) (by simp))).lies
    rw [hv] at hv'
    obtain ⟨rfl, -, -⟩ := Value.slice.inj hv'
    exact hl'

end Go.Proofs.Ytjmgmbigbkllgaa
