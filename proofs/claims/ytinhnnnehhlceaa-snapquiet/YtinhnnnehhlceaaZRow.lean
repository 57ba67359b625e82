
/-
  The steps of a checkpoint: whether a line is among a table's, and the row of steps; nothing that was there turns.
-/
import Derived.Test.YtinhnnnehhlceaaZHas
import Derived.Test.YtinhnnnehhlceaaPkXl
import Derived.OwnWalk
import Derived.BigQuiet
import Derived.Maps.AppendAt
namespace Go.Proofs.Ytinhnnnehhlceaa
open Go.ChangeShapes Go.WideShapes Go.ChangeAt Go.RowKit Go.Joins
set_option maxRecDepth 100000
set_option linter.unusedVariables false
set_option linter.unusedSimpArgs false

set_option maxHeartbeats 4000000 in
theorem zhas_any (t : Nat → En) (z : Int) (w : World) :
    Calls Try.prog 49 #[.agg (tabV t), .int .i64 z] w fun e w' => e = .returned (.bool (hasB t z)) ∧ Below w.heap.size w w' := by
  have s147 := s147_tab t
  have HX : Hid (∀ (W : World) (j : Nat), j < 49 → Sem.run Try.prog (Instr.index 41 (.agg (tabV t)) (.int .i64 (j : Int))) W = .ok (.agg (ev (t j))) W) := fun W j hj => by
    rw [← rowE_at 49 t j hj]; exact run_index_en _ 49 Try.underlying41 W _ (rowE_len _ _) .i64 j hj
  have KN := hide (heap_new w (.cells (tabV t) 41))
  have KB := hide ((Below.refl w.heap.size w).alloc (Nat.le_refl _) (.cells (tabV t) 41))
  go_enter Try.func49, Try.ntmps49
  go_wp2_with (with_reducible refine wpList_load_row (by with_unfolding_all rfl) 41 _ (by with_unfolding_all rfl) w.heap.size (by with_unfolding_all rfl) _ _ _ _ (unhide KN) Try.underlying41 (by with_unfolding_all rfl) s147 ?_)
  generalize hw1 : w.alloc _ = w1 at *
  clear hw1 KN
  go_loopw [8] (fun c wr => ∃ j : Nat, j ≤ 49 ∧ c = .int .i64 j ∧ Below w.heap.size w wr ∧ hasTo t z j = false) (fun c _ => 49 - (intOf c).toNat)
  case atStart => exact ⟨0, by omega, rfl, unhide KB, rfl⟩
  case round =>
    clear KB
    obtain ⟨j, hj, rfl, hb, hno⟩ := hrel
    have HB := hide hb
    have HN := hide hno
    have hsz := hb.size
    clear hb hno
    by_cases hlt : j < 49
    · have hix := fun W => unhide HX W j hlt
      obtain ⟨k, v, l, hx⟩ : ∃ k v l, t j = ⟨k, v, l⟩ := ⟨_, _, _, rfl⟩
      rw [hx] at hix
      have hi2 : ∀ W : World, Sem.run Try.prog (Instr.index 41 (.agg (tabV t)) (.int .i64 (j : Int))) W = .ok (.agg #[.int .i64 k, .int .i64 v, .int .i64 l]) W := hix
      have HA : Hid (atB ⟨k, v, l⟩ z = true → hasB t z = true) := fun h => hasB_of hlt (by rw [hx]; exact h)
      have HT : Hid (atB ⟨k, v, l⟩ z = false → hasTo t z (j + 1) = false) := fun h => by rw [hasTo_next, unhide HN, hx, h]; rfl
      clear hix hx HX
      by_cases h1 : k = 0
      · have e1 : (k != 0) = false := by simpa using h1
        have HT1 := hide (unhide HT (atB_no fun q => q.1 h1))
        clear HA HT h1
        go_wp2_with fail
        go_roundw
        case rel => exact ⟨j + 1, by omega, by go_num, (unhide HB).alloc hsz _, unhide HT1⟩
        case measure => simp [intOf]; omega
      · have e1 : (k != 0) = true := by simpa using h1
        by_cases h2 : l = z
        · have HA1 := hide (unhide HA ((atB_iff _ _).2 ⟨h1, h2⟩))
          have e2 : (l == z) = true := by simpa using h2
          clear HA HT h1 h2
          go_wp2_with fail
          go_ret
          exact ⟨by rw [unhide HA1]; rfl, (unhide HB).alloc hsz _⟩
        · have e2 : (l == z) = false := by simpa using h2
          have HT1 := hide (unhide HT (atB_no fun q => h2 q.2))
          clear HA HT h1 h2
          go_wp2_with fail
          go_roundw
          case rel => exact ⟨j + 1, by omega, by go_num, (unhide HB).alloc hsz _, unhide HT1⟩
          case measure => simp [intOf]; omega
    · obtain rfl : j = 49 := by omega
      go_wp2_with fail
      go_ret
      exact ⟨by rw [show hasB t z = false from unhide HN]; rfl, unhide HB⟩

/-! ### a row of steps that grows, beside blocks of the call's own -/
def RowP (base : Nat) (v : Value) (l : List (Nat × Int)) (w : World) : Prop := w.ownsRow base 90 2 v l.length (spsV l)
theorem info_step : (Try.prog.info? 90).map (fun i => (i.zero, i.size, i.bytes)) = some (some (.agg #[.nilFunc, .int .i64 0]), 2, 16) := by kernel_rfl
theorem RowP.nil (base : Nat) (w : World) : RowP base (.slice none 0 0) [] w := World.ownsRow_nil w base 90 2
theorem RowP.same {w w' : World} {base : Nat} {v : Value} {l : List (Nat × Int)} (h : RowP base v l w) (hs : ∀ k, v.ownBlock = some k → w'.heap[k]? = w.heap[k]?) : RowP base v l w' := by
  refine ⟨h.1, ?_⟩
  rcases h.2 with h' | ⟨g, cap, cur, rfl, h1, h2, h3⟩
  · exact Or.inl h'
  · exact Or.inr ⟨g, cap, cur, rfl, h1, (hs g rfl).trans h2, h3⟩
theorem RowP.lt {w : World} {base : Nat} {v : Value} {l : List (Nat × Int)} (h : RowP base v l w) : ∀ k, v.ownBlock = some k → base ≤ k ∧ k < w.heap.size := World.ownsRow.lt h
/-- As the worker has it. -/
theorem RowP.row {w : World} {base : Nat} {v : Value} {l : List (Nat × Int)} (h : RowP base v l w) : StepRow w v l := by
  rcases h.2 with ⟨rfl, h'⟩ | ⟨g, cap, cur, rfl, h1, h2, h3, h4, h5, h6⟩
  · exact Or.inl ⟨List.eq_nil_of_length_eq_zero h', none, 0, rfl⟩
  · refine Or.inr ⟨g, 0, cap, rfl, h3, fun j u hj => ?_⟩
    rw [cell_of_block h2, Nat.zero_add]
    have hlt : j < (spsV l).length := (List.getElem?_eq_some_iff.1 hj).1
    rw [spsV_len] at hlt
    rw [← h6, List.getElem?_take, if_pos (by omega), Array.getElem?_toList] at hj
    exact hj
def PSt (W w : World) (v : Value) (l : List (Nat × Int)) (L : List (Nat × Obj)) : Prop :=
  Keeps (fun _ => False) W w ∧ RowP W.heap.size v l w ∧ ∀ p ∈ L, w.heap[p.1]? = some p.2 ∧ v.ownBlock ≠ some p.1 ∧ W.heap.size ≤ p.1
theorem lt_of_heapP {w : World} {g : Nat} {o : Obj} (h : w.heap[g]? = some o) : g < w.heap.size := by
  rcases Nat.lt_or_ge g w.heap.size with h' | h'
  · exact h'
  · rw [Array.getElem?_eq_none h'] at h; cases h
section
variable {W w w' : World} {v : Value} {l : List (Nat × Int)} {L L' : List (Nat × Obj)}
theorem PSt.at (h : PSt W w v l L) (g : Nat) (o : Obj) (hm : (g, o) ∈ L) : w.heap[g]? = some o := (h.2.2 _ hm).1
theorem PSt.lt (h : PSt W w v l L) : ∀ p ∈ L, p.1 < w.heap.size := fun p hp => lt_of_heapP (h.2.2 p hp).1
theorem PSt.keeps (h : PSt W w v l L) (hk : Keeps (fun _ => False) w w') : PSt W w' v l L :=
  ⟨h.1.trans' hk, h.2.1.same fun k e => hk.block k (h.2.1.lt k e).2 id, fun p hp => ⟨(hk.block _ (h.lt p hp) id).trans (h.2.2 p hp).1, (h.2.2 p hp).2⟩⟩
theorem PSt.below (h : PSt W w v l L) (hb : Below w.heap.size w w') : PSt W w' v l L := h.keeps (Keeps.of_below hb)
theorem PSt.alloc (h : PSt W w v l L) (o : Obj) : PSt W (w.alloc o) v l ((w.heap.size, o) :: L) := by
  have h1 := h.keeps ((Keeps.refl _ w).alloc o)
  refine ⟨h1.1, h1.2.1, fun p hp => ?_⟩
  rcases List.mem_cons.1 hp with rfl | hp
  · exact ⟨heap_new w o, fun e => by have := (h.2.1.lt _ e).2; simp at this, h.1.size⟩
  · exact h1.2.2 p hp
theorem PSt.joins (h : PSt W w v l L) (g : Nat) (o : Obj) (ho : w.heap[g]? = some o) (hn : v.ownBlock ≠ some g) (hW : W.heap.size ≤ g) : PSt W w v l ((g, o) :: L) :=
  ⟨h.1, h.2.1, fun p hp => by
    rcases List.mem_cons.1 hp with rfl | hp
    · exact ⟨ho, hn, hW⟩
    · exact h.2.2 p hp⟩
theorem PSt.less (h : PSt W w v l L) (hs : ∀ p ∈ L', p ∈ L) : PSt W w v l L' := ⟨h.1, h.2.1, fun p hp => h.2.2 p (hs p hp)⟩
end
/-- Some more steps behind the row. -/
theorem push_sp {W w : World} {v : Value} {l : List (Nat × Int)} {L : List (Nat × Obj)} {ops : Array Oper} {rest : List Oper} {o : Oper} {a : Act} {Q : Exit → Act → World → Prop} (r : List (Nat × Int)) (cs : Array Value) (hcs : cs.toList = spsV r) (hgd : o.guard = none) (s x : Operand) (ho : o.op = .call { callee := .builtin .append, args := #[s, x], argTypes := #[81, 81] })
    (hs : a.eval s = v) (hst : PSt W w v l L) (hx : a.eval x = .slice (some ⟨w.heap.size, 0, none⟩) r.length r.length) (hlen : l.length + r.length < 1000)
    (h : ∀ v' w', PSt W w' v' (l ++ r) L → wpList Try.prog ops Q rest (a.put o.dst v') w') :
    wpList Try.prog ops Q (o :: rest) a (w.alloc (.cells cs 90)) := by
  obtain ⟨i0, hi, hz0, hz1, hz2⟩ := info_parts info_step
  have h1 := hst.alloc (.cells cs 90)
  refine wpList_append_own_at _ hgd s x 81 ho W.heap.size 90 i0 (.agg #[.nilFunc, .int .i64 0]) 2 16 Try.underlying81 hi hz0 hz1 hz2 rfl (by decide) v l.length (spsV l) hs h1.2.1 ⟨w.heap.size, 0, none⟩ r.length r.length (spsV r) hx (by rw [spsV_len]; omega) ?_ ?_ ?_ ?_ ?_ ?_
  · intro j u hj
    rw [Addr.add_mid, Nat.zero_add, cell_of_block (heap_new w _), ← Array.getElem?_toList, hcs]; exact hj
  · intro u hu
    unfold spsV at hu
    obtain ⟨p, -, hp⟩ := List.mem_flatMap.1 hu
    unfold spV at hp
    simp only [List.mem_cons, List.not_mem_nil, or_false] at hp
    rcases hp with rfl | rfl <;> rfl
  · unfold maxLen; omega
  · omega
  · exact h1.1.size
  · intro v' w' h2 h3 _ h5
    refine h v' w' ⟨h1.1.grown h3 (fun k e => Or.inr (h1.2.1.lt k e).1), ?_, fun p hp => ?_⟩
    · show w'.ownsRow W.heap.size 90 2 v' (l ++ r).length (spsV (l ++ r))
      rw [List.length_append, spsV_app]
      exact h2
    · obtain ⟨q1, q2, q3⟩ := h1.2.2 p (List.mem_cons_of_mem _ hp)
      have hlt := lt_of_heapP q1
      refine ⟨(h3.block _ hlt (fun e => q2 e.symm)).trans q1, fun e => ?_, q3⟩
      rcases h5 with h5 | h5
      · exact q2 (h5.symm.trans e)
      · rw [h5] at e
        have hp2 := hst.lt p hp
        have : (w.alloc (.cells cs 90)).heap.size = p.1 := by simpa using e
        have h6 : (w.alloc (.cells cs 90)).heap.size = w.heap.size + 1 := by simp
        omega

end Go.Proofs.Ytinhnnnehhlceaa
