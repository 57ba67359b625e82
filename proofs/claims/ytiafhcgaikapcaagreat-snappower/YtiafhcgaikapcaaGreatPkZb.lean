import Derived.Test.YtiafhcgaikapcaaGreatPkZa
import Derived.Test.YtiafhcgaikapcaaGreatPkXl
import Derived.OwnWalk
import Derived.BigQuiet
import Derived.Maps.AppendAt

/-
  The steps of a checkpoint: whether a line is among a table's, and the row of steps; nothing that was there turns.
-/
namespace Go.Proofs.YtiafhcgaikapcaaGreat
open Go.ChangeShapes Go.WideShapes Go.ChangeAt Go.RowKit Go.Joins
set_option maxRecDepth 100000
set_option linter.unusedVariables false
set_option linter.unusedSimpArgs false

set_option maxHeartbeats 4000000 in
theorem zhas_any (t : Nat → En) (z : Int) (w : World) :
    Calls Tryz.prog 147 #[.agg (tabV t), .int .i64 z] w fun e w' => e = .returned (.bool (hasB t z)) ∧ Below w.heap.size w w' := by
  have s147 := s147_tab t
  have HX : Hid (∀ (W : World) (j : Nat), j < 49 → Sem.run Tryz.prog (Instr.index 66 (.agg (tabV t)) (.int .i64 (j : Int))) W = .ok (.agg (ev (t j))) W) := fun W j hj => by
    rw [← rowE_at 49 t j hj]; exact run_index_en _ 49 Tryz.underlying66 W _ (rowE_len _ _) .i64 j hj
  have KN := hide (heap_new w (.cells (tabV t) 66))
  have KB := hide ((Below.refl w.heap.size w).alloc (Nat.le_refl _) (.cells (tabV t) 66))
  go_enter Tryz.func147, Tryz.ntmps147
  go_wp2_with (with_reducible refine wpList_load_row (by with_unfolding_all rfl) 66 _ (by with_unfolding_all rfl) w.heap.size (by with_unfolding_all rfl) _ _ _ _ (unhide KN) Tryz.underlying66 (by with_unfolding_all rfl) s147 ?_)
  generalize hw1 : w.alloc _ = w1 at *
  clear hw1 KN
  go_loopw [8] (fun c wr => ∃ j : Nat, j ≤ 49 ∧ c = .int .i64 j ∧ Below w.heap.size w wr ∧ hasTo t z j = false) (fun c _ => 49 - (intOf c).toNat)
  case atStart => exact ⟨0, by omega, rfl, unhide KB, rfl⟩
  case round =>
    clear KB
    obtain ⟨j, hj, rfl, hb, hno⟩ := hrel
    have HB := hide hb
    have HN := hide hno
    have hsz := hb.size
    clear hb hno
    by_cases hlt : j < 49
    · have hix := fun W => unhide HX W j hlt
      obtain ⟨k, v, l, hx⟩ : ∃ k v l, t j = ⟨k, v, l⟩ := ⟨_, _, _, rfl⟩
      rw [hx] at hix
      have hi2 : ∀ W : World, Sem.run Tryz.prog (Instr.index 66 (.agg (tabV t)) (.int .i64 (j : Int))) W = .ok (.agg #[.int .i64 k, .int .i64 v, .int .i64 l]) W := hix
      have HA : Hid (atB ⟨k, v, l⟩ z = true → hasB t z = true) := fun h => hasB_of hlt (by rw [hx]; exact h)
      have HT : Hid (atB ⟨k, v, l⟩ z = false → hasTo t z (j + 1) = false) := fun h => by rw [hasTo_next, unhide HN, hx, h]; rfl
      clear hix hx HX
      by_cases h1 : k = 0
      · have e1 : (k != 0) = false := by simpa using h1
        have HT1 := hide (unhide HT (atB_no fun q => q.1 h1))
        clear HA HT h1
        go_wp2_with fail
        go_roundw
        case rel => exact ⟨j + 1, by omega, by go_num, (unhide HB).alloc hsz _, unhide HT1⟩
        case measure => simp [intOf]; omega
      · have e1 : (k != 0) = true := by simpa using h1
        by_cases h2 : l = z
        · have HA1 := hide (unhide HA ((atB_iff _ _).2 ⟨h1, h2⟩))
          have e2 : (l == z) = true := by simpa using h2
          clear HA HT h1 h2
          go_wp2_with fail
          go_ret
          exact ⟨by rw [unhide HA1]; rfl, (unhide HB).alloc hsz _⟩
        · have e2 : (l == z) = false := by simpa using h2
          have HT1 := hide (unhide HT (atB_no fun q => h2 q.2))
          clear HA HT h1 h2
          go_wp2_with fail
          go_roundw
          case rel => exact ⟨j + 1, by omega, by go_num, (unhide HB).alloc hsz _, unhide HT1⟩
          case measure => simp [intOf]; omega
    · obtain rfl : j = 49 := by omega
      go_wp2_with fail
      go_ret
      exact ⟨by rw [show hasB t z = false from unhide HN]; rfl, unhide HB⟩

/-! ### a row of steps that grows, beside blocks of the call's own -/
def RowP (base : Nat) (v : Value) (l : List (Nat × Int)) (w : World) : Prop := w.ownsRow base 165 2 v l.length (spsV l)
theorem info_step : (Tryz.prog.info? 165).map (fun i => (i.zero, i.size, i.bytes)) = some (some (.agg #[.nilFunc, .int .i64 0]), 2, 16) := by kernel_rfl
theorem RowP.nil (base : Nat) (w : World) : RowP base (.slice none 0 0) [] w := World.ownsRow_nil w base 165 2
theorem RowP.same {w w' : World} {base : Nat} {v : Value} {l : List (Nat × Int)} (h : RowP base v l w) (hs : ∀ k, v.ownBlock = some k → w'.heap[k]? = w.heap[k]?) : RowP base v l w' := by
  refine ⟨h.1, ?_⟩
  rcases h.2 with h' | ⟨g, cap, cur, rfl, h1, h2, h3⟩
  · exact Or.inl h'
  · exact Or.inr ⟨g, cap, cur, rfl, h1, (hs g rfl).trans h2, h3⟩
theorem RowP.lt {w : World} {base : Nat} {v : Value} {l : List (Nat × Int)} (h : RowP base v l w) : ∀ k, v.ownBlock = some k → base ≤ k ∧ k < w.heap.size := World.ownsRow.lt h
/-- As the worker has it. -/
theorem RowP.row {w : World} {base : Nat} {v : Value} {l : List (Nat × Int)} (h : RowP base v l w) : StepRow w v l := by
  rcases h.2 with ⟨rfl, h'⟩ | ⟨g, cap, cur, rfl, h1, h2, h3, h4, h5, h6⟩
  · exact Or.inl ⟨List.eq_nil_of_length_eq_zero h', none, 0, rfl⟩
  · refine Or.inr ⟨g, 0, cap, rfl, h3, fun j u hj => ?_⟩
    rw [cell_of_block h2, Nat.zero_add]
    have hlt : j < (spsV l).length := (List.getElem?_eq_some_iff.1 hj).1
    rw [spsV_len] at hlt
    rw [← h6, List.getElem?_take, if_pos (by omega), Array.getElem?_toList] at hj
    exact hj
def PSt (W w : World) (v : Value) (l : List (Nat × Int)) (L : List (Nat × Obj)) : Prop :=
  Keeps (fun _ => False) W w ∧ RowP W.heap.size v l w ∧ ∀ p ∈ L, w.heap[p.1]? = some p.2 ∧ v.ownBlock ≠ some p.1 ∧ W.heap.size ≤ p.1
theorem lt_of_heapP {w : World} {g : Nat} {o : Obj} (h : w.heap[g]? = some o) : g < w.heap.size := by
  rcases Nat.lt_or_ge g w.heap.size with h' | h'
  · exact h'
  · rw [Array.getElem?_eq_none h'] at h; cases h
section
variable {W w w' : World} {v : Value} {l : List (Nat × Int)} {L L' : List (Nat × Obj)}
theorem PSt.at (h : PSt W w v l L) (g : Nat) (o : Obj) (hm : (g, o) ∈ L) : w.heap[g]? = some o := (h.2.2 _ hm).1
theorem PSt.lt (h : PSt W w v l L) : ∀ p ∈ L, p.1 < w.heap.size := fun p hp => lt_of_heapP (h.2.2 p hp).1
theorem PSt.keeps (h : PSt W w v l L) (hk : Keeps (fun _ => False) w w') : PSt W w' v l L :=
  ⟨h.1.trans' hk, h.2.1.same fun k e => hk.block k (h.2.1.lt k e).2 id, fun p hp => ⟨(hk.block _ (h.lt p hp) id).trans (h.2.2 p hp).1, (h.2.2 p hp).2⟩⟩
theorem PSt.below (h : PSt W w v l L) (hb : Below w.heap.size w w') : PSt W w' v l L := h.keeps (Keeps.of_below hb)
theorem PSt.alloc (h : PSt W w v l L) (o : Obj) : PSt W (w.alloc o) v l ((w.heap.size, o) :: L) := by
  have h1 := h.keeps ((Keeps.refl _ w).alloc o)
  refine ⟨h1.1, h1.2.1, fun p hp => ?_⟩
  rcases List.mem_cons.1 hp with rfl | hp
  · exact ⟨heap_new w o, fun e => by have := (h.2.1.lt _ e).2; simp at this, h.1.size⟩
  · exact h1.2.2 p hp
theorem PSt.joins (h : PSt W w v l L) (g : Nat) (o : Obj) (ho : w.heap[g]? = some o) (hn : v.ownBlock ≠ some g) (hW : W.heap.size ≤ g) : PSt W w v l ((g, o) :: L) :=
  ⟨h.1, h.2.1, fun p hp => by
    rcases List.mem_cons.1 hp with rfl | hp
    · exact ⟨ho, hn, hW⟩
    · exact h.2.2 p hp⟩
theorem PSt.less (h : PSt W w v l L) (hs : ∀ p ∈ L', p ∈ L) : PSt W w v l L' := ⟨h.1, h.2.1, fun p hp => h.2.2 p (hs p hp)⟩
end
/-- Some more steps behind the row. -/
theorem push_sp {W w : World} {v : Value} {l : List (Nat × Int)} {L : List (Nat × Obj)} {ops : Array Oper} {rest : List Oper} {o : Oper} {a : Act} {Q : Exit → Act → World → Prop} (r : List (Nat × Int)) (cs : Array Value) (hcs : cs.toList = spsV r) (hgd : o.guard = none) (s x : Operand) (ho : o.op = .call { callee := .builtin .append, args := #[s, x], argTypes := #[151, 151] })
    (hs : a.eval s = v) (hst : PSt W w v l L) (hx : a.eval x = .slice (some ⟨w.heap.size, 0, none⟩) r.length r.length) (hlen : l.length + r.length < 1000)
    (h : ∀ v' w', PSt W w' v' (l ++ r) L → wpList Tryz.prog ops Q rest (a.put o.dst v') w') :
    wpList Tryz.prog ops Q (o :: rest) a (w.alloc (.cells cs 165)) := by
  obtain ⟨i0, hi, hz0, hz1, hz2⟩ := info_parts info_step
  have h1 := hst.alloc (.cells cs 165)
  refine wpList_append_own_at _ hgd s x 151 ho W.heap.size 165 i0 (.agg #[.nilFunc, .int .i64 0]) 2 16 Tryz.underlying151 hi hz0 hz1 hz2 rfl (by decide) v l.length (spsV l) hs h1.2.1 ⟨w.heap.size, 0, none⟩ r.length r.length (spsV r) hx (by rw [spsV_len]; omega) ?_ ?_ ?_ ?_ ?_ ?_
  · intro j u hj
    rw [Addr.add_mid, Nat.zero_add, cell_of_block (heap_new w _), ← Array.getElem?_toList, hcs]; exact hj
  · intro u hu
    unfold spsV at hu
    obtain ⟨p, -, hp⟩ := List.mem_flatMap.1 hu
    unfold spV at hp
    simp only [List.mem_cons, List.not_mem_nil, or_false] at hp
    rcases hp with rfl | rfl <;> rfl
  · unfold maxLen; omega
  · omega
  · exact h1.1.size
  · intro v' w' h2 h3 _ h5
    refine h v' w' ⟨h1.1.grown h3 (fun k e => Or.inr (h1.2.1.lt k e).1), ?_, fun p hp => ?_⟩
    · show w'.ownsRow W.heap.size 165 2 v' (l ++ r).length (spsV (l ++ r))
      rw [List.length_append, spsV_app]
      exact h2
    · obtain ⟨q1, q2, q3⟩ := h1.2.2 p (List.mem_cons_of_mem _ hp)
      have hlt := lt_of_heapP q1
      refine ⟨(h3.block _ hlt (fun e => q2 e.symm)).trans q1, fun e => ?_, q3⟩
      rcases h5 with h5 | h5
      · exact q2 (h5.symm.trans e)
      · rw [h5] at e
        have hp2 := hst.lt p hp
        have : (w.alloc (.cells cs 165)).heap.size = p.1 := by simpa using e
        have h6 : (w.alloc (.cells cs 165)).heap.size = w.heap.size + 1 := by simp
        omega

end Go.Proofs.YtiafhcgaikapcaaGreat


/-
  The steps of a checkpoint of what is marked, as a row: objects' lines, leaves, root, fence, superblock.
-/
namespace Go.Proofs.YtiafhcgaikapcaaGreat
open Go.ChangeShapes Go.WideShapes Go.ChangeAt Go.RowKit Go.Joins
set_option maxRecDepth 100000
set_option linter.unusedVariables false
set_option linter.unusedSimpArgs false

theorem objSteps_out {mk bt : Nat → En} {j : Nat} (h : ¬ ((mk j).k ≠ 0 ∧ hasB bt (mk j).l = false)) : objSteps mk bt (j + 1) = objSteps mk bt j := by
  rw [objSteps]; unfold objStep; rw [if_neg h, List.append_nil]
theorem objSteps_in {mk bt : Nat → En} {j : Nat} (h : (mk j).k ≠ 0) (h2 : hasB bt (mk j).l = false) : objSteps mk bt (j + 1) = objSteps mk bt j ++ [(1, (mk j).l)] := by
  rw [objSteps]; unfold objStep; rw [if_pos ⟨h, h2⟩]
def stepsTo (mk bt : Nat → En) (j : Nat) : List (Nat × Int) := objSteps mk bt 49 ++ leafSteps ((dfTo (rowE 49 mk) (rowE 49 bt) 7).take j)
theorem stepsTo_zero (mk bt : Nat → En) : stepsTo mk bt 0 = objSteps mk bt 49 := by unfold stepsTo leafSteps; simp
theorem stepsTo_next (mk bt : Nat → En) (j : Nat) (h : j < (dfTo (rowE 49 mk) (rowE 49 bt) 7).length) : stepsTo mk bt (j + 1) = stepsTo mk bt j ++ [(2, (dfTo (rowE 49 mk) (rowE 49 bt) 7).getD j 0)] := by
  unfold stepsTo leafSteps
  rw [List.take_succ_eq_append_getElem h, List.map_append, ← List.append_assoc]
  congr 1
  simp [List.getD_eq_getElem?_getD, h]
theorem stepsTo_all (mk bt : Nat → En) : stepsTo mk bt (dfTo (rowE 49 mk) (rowE 49 bt) 7).length ++ lastSteps = stepsOf mk bt := by unfold stepsTo stepsOf; rw [List.take_length]
theorem stepsTo_len (mk bt : Nat → En) (j : Nat) : (stepsTo mk bt j).length ≤ 56 := by
  have h1 := objSteps_len mk bt 49
  have h2 := dfTo_len (rowE 49 mk) (rowE 49 bt) 7
  unfold stepsTo leafSteps
  simp only [List.length_append, List.length_map, List.length_take]
  omega
/-- A row of ints in a block of its own, wherever that block stays. -/
theorem rowx_cells {w : World} {base : Nat} {v : Value} {zs : List Int} (h : RowX base v zs w) : ∃ a cap, v = .slice a zs.length cap ∧ (zs ≠ [] → ∃ g o, a = some ⟨g, 0, none⟩ ∧ base ≤ g ∧ w.heap[g]? = some o ∧ ∀ w' : World, w'.heap[g]? = some o → ∀ i, i < zs.length → w'.cell? ⟨g, i, none⟩ = some (.int .i64 (zs.getD i 0))) := by
  rcases h.2 with ⟨rfl, h'⟩ | ⟨g, cap, cur, rfl, h1, h2, h3, h4, h5, h6⟩
  · exact ⟨none, 0, by rw [h'], fun hn => absurd (List.eq_nil_of_length_eq_zero h') hn⟩
  · refine ⟨_, cap, rfl, fun hn => ⟨g, _, rfl, h1, h2, fun w' hw i hi => ?_⟩⟩
    rw [cell_of_block hw]
    have : (cur.toList.take (zs.length * 1))[i]? = some (.int .i64 (zs.getD i 0)) := by rw [h6]; simp [intsX, hi]
    rw [List.getElem?_take, if_pos (by omega), Array.getElem?_toList] at this
    exact this

set_option maxHeartbeats 8000000 in
theorem zsteps_any (mk bt : Nat → En) (w : World) :
    Calls Tryz.prog 88 #[.agg (tabV mk), .agg (tabV bt)] w fun e w' => ∃ v, e = .returned v ∧ Keeps (fun _ => False) w w' ∧ RowP w.heap.size v (stepsOf mk bt) w' := by
  have s147k := s147_tab mk
  have s147b := s147_tab bt
  have HX : Hid (∀ (W : World) (j : Nat), j < 49 → Sem.run Tryz.prog (Instr.index 66 (.agg (tabV mk)) (.int .i64 (j : Int))) W = .ok (.agg (ev (mk j))) W) := fun W j hj => by
    rw [← rowE_at 49 mk j hj]; exact run_index_en _ 49 Tryz.underlying66 W _ (rowE_len _ _) .i64 j hj
  have CD := hide (fun w' => differ_any (rowE 49 mk) (rowE 49 bt) (rowE_len _ _) (rowE_len _ _) w')
  have e1 : iv .i64 (rowE 49 mk) = tabV mk := rfl
  have e2 : iv .i64 (rowE 49 bt) = tabV bt := rfl
  rw [e1, e2] at CD
  have CH := hide (fun z w' => zhas_any bt z w')
  have P0 : Hid (PSt w w (.slice none 0 0) [] []) := ⟨Keeps.refl _ _, RowP.nil _ _, by simp⟩
  have P2 := hide (((unhide P0).alloc (.cells (tabV mk) 66)).alloc (.cells (tabV bt) 66))
  clear P0 e1 e2
  generalize hTK : tabV mk = TK at *
  generalize hTB : tabV bt = TB at *
  clear hTK hTB
  go_enter Tryz.func88, Tryz.ntmps88
  go_upto_region 2 with fail
  obtain ⟨g2, hg2⟩ : ∃ g, g = w.heap.size := ⟨_, rfl⟩
  have hs1 : (w.alloc (.cells TK 66)).heap.size = g2 + 1 := by rw [hg2]; simp
  rw [hs1] at P2
  rw [← hg2] at P2 ⊢
  clear hs1 hg2
  generalize (w.alloc (.cells TK 66)).alloc (.cells TB 66) = w2 at *
  have K2 := hide ((unhide P2).at g2 (.cells TK 66) (by simp))
  go_wp2_with (with_reducible refine wpList_load_row (by with_unfolding_all rfl) 66 _ (by with_unfolding_all rfl) g2 (by with_unfolding_all rfl) _ _ _ _ (unhide K2) Tryz.underlying66 (by with_unfolding_all rfl) s147k ?_)
  clear K2
  go_loopw [5, 11] (fun v q wr => ∃ j : Nat, j ≤ 49 ∧ q = .int .i64 j ∧ PSt w wr v (objSteps mk bt j) [(g2 + 1, .cells TB 66), (g2, .cells TK 66)]) (fun _ q _ => 49 - (intOf q).toNat)
  case atStart => exact ⟨0, by omega, rfl, unhide P2⟩
  case round =>
    clear P2
    obtain ⟨j, hj, rfl, hh⟩ := hrel
    have HH := hide hh
    clear hh
    by_cases hlt : j < 49
    · have hix := fun W => unhide HX W j hlt
      obtain ⟨k, v0, l, hx⟩ : ∃ k v l, mk j = ⟨k, v, l⟩ := ⟨_, _, _, rfl⟩
      rw [hx] at hix
      have hi2 : ∀ W : World, Sem.run Tryz.prog (Instr.index 66 (.agg TK) (.int .i64 (j : Int))) W = .ok (.agg #[.int .i64 k, .int .i64 v0, .int .i64 l]) W := hix
      have OUT : Hid (¬ (k ≠ 0 ∧ hasB bt l = false) → objSteps mk bt (j + 1) = objSteps mk bt j) := fun h => objSteps_out (by rw [hx]; exact h)
      have IN : Hid (k ≠ 0 → hasB bt l = false → objSteps mk bt (j + 1) = objSteps mk bt j ++ [(1, l)]) := fun h h2 => by
        have := objSteps_in (mk := mk) (bt := bt) (j := j) (by rw [hx]; exact h) (by rw [hx]; exact h2)
        rw [hx] at this; exact this
      have HA := hide ((unhide HH).alloc (.cells #[.int .i64 k, .int .i64 v0, .int .i64 l] 41))
      have hlt2 : (j : Int) < 49 := by omega
      clear hix hx HX HH
      by_cases h1 : k = 0
      · have e1 : (k != 0) = false := by simpa using h1
        have EJ := hide (unhide OUT fun q => q.1 h1)
        clear OUT IN h1
        go_wp2_with fail
        go_roundw
        case rel => exact ⟨j + 1, by omega, by go_num, by rw [unhide EJ]; exact (unhide HA).less (by simp)⟩
        case measure => simp [intOf]; omega
      · have e1 : (k != 0) = true := by simpa using h1
        have KB := hide ((unhide HA).at (g2 + 1) (.cells TB 66) (by simp))
        go_wp2_with (with_reducible refine wpList_load_row_g (by with_unfolding_all rfl) 66 _ (by with_unfolding_all rfl) (g2 + 1) (by with_unfolding_all rfl) _ _ _ _ (unhide KB) Tryz.underlying66 (by with_unfolding_all rfl) s147b ?_)
        refine (unhide CH l _).mono ?_
        rintro e w3 ⟨rfl, hb⟩
        have HB := hide ((unhide HA).below hb)
        clear hb HA KB CH
        cases hB : hasB bt l with
        | true =>
          have EJ := hide (unhide OUT fun q => by rw [hB] at q; exact absurd q.2 (by decide))
          clear OUT IN hB h1
          go_wp2_with fail
          go_roundw
          case rel => exact ⟨j + 1, by omega, by go_num, by rw [unhide EJ]; exact (unhide HB).less (by simp)⟩
          case measure => simp [intOf]; omega
        | false =>
          have EJ := hide (unhide IN h1 hB)
          have c2 : w3.cell? ⟨wr.heap.size, 2, none⟩ = some (.int .i64 l) := by rw [cell_of_block ((unhide HB).at wr.heap.size (.cells #[.int .i64 k, .int .i64 v0, .int .i64 l] 41) (by simp))]; rfl
          have HC := hide ((unhide HB).less (L' := [(g2 + 1, .cells TB 66), (g2, .cells TK 66)]) (by simp))
          have hlen := objSteps_len mk bt j
          clear OUT IN hB h1 HB
          go_upto_region 7 with (at_builtin; refine push_sp [(1, l)] #[fnV 1, .int .i64 l] rfl rfl (.tmp 24) (.tmp 28) rfl rfl (unhide HC) rfl (by simp; omega) ?_; intro v' w9 r1; have Q1 := hide r1; clear r1)
          clear HC c2
          go_wp2_with fail
          go_roundw
          case rel => exact ⟨j + 1, by omega, by go_num, by rw [unhide EJ]; exact unhide Q1⟩
          case measure => simp [intOf]; omega
    · have ej : j = 49 := by omega
      have HP : Hid (PSt w wr u5 (stepsTo mk bt 0) [(g2 + 1, .cells TB 66), (g2, .cells TK 66)]) := by show PSt _ _ _ _ _; rw [stepsTo_zero, ← ej]; exact unhide HH
      have hge : ¬ ((j : Int) < 49) := by omega
      clear HH HX CH hlt hj ej
      go_upto_region 8 with fail
      clear hge
      generalize (j : Int) = lastj at *
      have K2 := hide ((unhide HP).at g2 (.cells TK 66) (by simp))
      have K3 := hide ((unhide HP).at (g2 + 1) (.cells TB 66) (by simp))
      go_wp2_with (first | (with_reducible refine wpList_load_row (by with_unfolding_all rfl) 66 _ (by with_unfolding_all rfl) g2 (by with_unfolding_all rfl) _ _ _ _ (unhide K2) Tryz.underlying66 (by with_unfolding_all rfl) s147k ?_) | (with_reducible refine wpList_load_row (by with_unfolding_all rfl) 66 _ (by with_unfolding_all rfl) (g2 + 1) (by with_unfolding_all rfl) _ _ _ _ (unhide K3) Tryz.underlying66 (by with_unfolding_all rfl) s147b ?_))
      refine (unhide CD _).mono ?_
      rintro e w4 ⟨vd, rfl, hb, hr⟩
      have h1 := (unhide HP).below hb
      obtain ⟨a, cap, rfl, hc⟩ := rowx_cells hr
      have hsz := (unhide HP).2.1.lt
      obtain ⟨Ld, HD⟩ : ∃ Ld, Hid (PSt w w4 u5 (stepsTo mk bt 0) Ld ∧ ∀ w' v' l', PSt w w' v' l' Ld → ∀ i, i < (dfTo (rowE 49 mk) (rowE 49 bt) 7).length → ∃ g, a = some ⟨g, 0, none⟩ ∧ w'.cell? ⟨g, i, none⟩ = some (.int .i64 ((dfTo (rowE 49 mk) (rowE 49 bt) 7).getD i 0))) := by
        by_cases hz : dfTo (rowE 49 mk) (rowE 49 bt) 7 = []
        · exact ⟨[], h1.less (by simp), fun w' v' l' _ i hi => by rw [hz] at hi; simp at hi⟩
        · obtain ⟨g, o, ha, hg, ho, hcc⟩ := hc hz
          refine ⟨[(g, o)], (h1.less (L' := []) (by simp)).joins g o ho (fun e => by have := (hsz _ e).2; omega) (Nat.le_trans (unhide HP).1.size hg), fun w' v' l' hp i hi => ⟨g, ha, hcc w' (hp.at g o (by simp)) i hi⟩⟩
      have hdl := dfTo_len (rowE 49 mk) (rowE 49 bt) 7
      have SN := hide (stepsTo_next mk bt)
      have SA := hide (stepsTo_all mk bt)
      have SL := stepsTo_len mk bt
      clear h1 hc hsz hr hb K2 K3 HP CD
      generalize dfTo (rowE 49 mk) (rowE 49 bt) 7 = D at *
      go_upto_region 9 with fail
      obtain ⟨h5, hcell⟩ := unhide HD
      have H5 := hide h5
      have HC := hide hcell
      clear h5 hcell HD
      go_wp2_with fail
      go_loopw [5, 35] (fun v q wq => ∃ i : Nat, i ≤ D.length ∧ q = .int .i64 i ∧ PSt w wq v (stepsTo mk bt i) Ld) (fun _ q _ => D.length - (intOf q).toNat)
      case atStart => exact ⟨0, by omega, rfl, unhide H5⟩
      case round =>
        clear H5
        obtain ⟨i, hi, rfl, hh⟩ := hrel
        have HH := hide hh
        clear hh
        by_cases hlt : i < D.length
        · obtain ⟨g, ha, ci⟩ := unhide HC _ _ _ (unhide HH) i hlt
          have EN := hide (unhide SN i hlt)
          have hli := SL i
          have hlt2 : (i : Int) < (D.length : Int) := by omega
          subst ha
          generalize D.getD i 0 = z at *
          go_upto_region 12 with (at_builtin; refine push_sp [(2, z)] #[fnV 2, .int .i64 z] rfl rfl (.tmp 39) (.tmp 42) rfl rfl (unhide HH) rfl (by simp; omega) ?_; intro v' w9 r1; have Q1 := hide r1; clear r1)
          clear HH ci hli hlt2
          go_wp2_with fail
          go_roundw
          case rel => exact ⟨i + 1, by omega, by go_num, by rw [unhide EN]; exact unhide Q1⟩
          case measure => simp [intOf]; omega
        · have ei : i = D.length := by omega
          have hge : ¬ ((i : Int) < (D.length : Int)) := by omega
          have HP2 : Hid (PSt w wr u5 (stepsTo mk bt D.length) Ld) := by show PSt _ _ _ _ _; rw [← ei]; exact unhide HH
          have hl9 := SL D.length
          clear HH ei hlt HC SN
          go_upto_region 13 with fail
          clear hge
          generalize (i : Int) = lasti at *
          generalize (D.length : Int) = lastl at *
          go_wp2_with (at_builtin; refine push_sp lastSteps #[fnV 3, .int .i64 7, fnV 4, .int .i64 0, fnV 5, .int .i64 0] rfl rfl (.tmp 45) (.tmp 49) rfl rfl (unhide HP2) rfl (by have e3 : lastSteps.length = 3 := rfl; omega) ?_; intro v' w9 r1; have Q1 := hide r1; clear r1)
          go_ret
          exact ⟨_, rfl, (unhide Q1).1, by rw [← unhide SA]; exact (unhide Q1).2.1⟩

end Go.Proofs.YtiafhcgaikapcaaGreat


/-
  Begin.
-/
namespace Go.Proofs.YtiafhcgaikapcaaGreat
open Go.ChangeShapes Go.WideShapes Go.ChangeAt Go.RowKit Go.Joins
set_option maxRecDepth 100000
set_option linter.unusedVariables false
set_option linter.unusedSimpArgs false

theorem zero_dirz : (Tryz.prog.info? 67).map (·.zero) = some (some (.agg (dirV fun _ => 0))) := by kernel_rfl
theorem mark_fields {S : Sto} (h : S.is = false) : S.markE = 0 ∧ S.markS.k = S.w ∧ S.markS.b = S.b ∧ S.markS.d = S.d := by
  unfold Sto.markE Sto.markS
  rw [h]; exact ⟨rfl, rfl, rfl, rfl⟩

set_option maxHeartbeats 8000000 in
theorem wbegin_any {W w : World} {m b x : Nat} {St : Mm → World → (Nat → Prop) → Prop} {S : Sto} {A : Mm} {K : Wk} {G : Nat → Prop} (M : MemX W m St) (h0 : WHas W m b x St S A K w G) (z : Int) :
    Calls Tryz.prog 26 #[.pointer (some ⟨x, 0, none⟩), .int .i64 z] w (Done (WHas W m b x St (K.beginS S z) A (K.beginK S z)) w G (.int .i64 (K.beginE S z))) := by
  obtain ⟨sl, h⟩ := h0
  by_cases hl : K.l = []
  · skip
    have T0 := hide (WH.stay M.toMemL b x S A K sl)
    have O0 := hide (Held.start (unhide T0) h)
    have CL := hide (wleft_any h)
    have pb := h.rep.pb
    have hlen : K.l.length = 0 := by rw [hl]; rfl
    rw [hlen] at CL
    have cg := h.rep.cg
    by_cases ha : K.argB z = true
    · obtain ⟨a1, a2, a3⟩ : 0 ≤ z ∧ z ≤ two40 ∧ K.gen ≠ two40 := by unfold Wk.argB at ha; exact of_decide_eq_true ha
      have b1 : (K.gen == 1099511627776) = false := by unfold two40 at a3; simpa using a3
      have hz1 : ¬ z < 0 := by omega
      have hz2 : ¬ z > 1099511627776 := by unfold two40 at a2; omega
      cases hi : S.is with
      | true =>
        have e0 : S.markE = 3 := by unfold Sto.markE; rw [hi]; rfl
        have e00 : S.markS = S := by unfold Sto.markS; rw [hi]; rfl
        have e1 : K.beginE S z = 3 := by unfold Wk.beginE; rw [if_neg (by simpa using hl), if_pos ha, e0]
        have e2 : K.beginS S z = S := by unfold Wk.beginS; rw [if_pos ⟨hl, ha⟩, e00]
        have e3 : K.beginK S z = K := by unfold Wk.beginK; rw [if_neg (by simp [hi])]
        rw [e1, e2, e3]
        have CM := hide (mark_obj M.toMemL h.st)
        rw [e0, e00] at CM
        have HW := hide h
        clear e0 e00 e1 e2 e3 ha hi a1 a2 a3 hl hlen O0 h
        generalize K.gen = gen at *
        go_enter Tryz.func26, Tryz.ntmps26
        go_wp2_with fail
        refine (unhide CL).mono ?_
        rintro e w ⟨rfl, rfl⟩
        clear CL
        go_wp2_with fail
        refine (unhide CM).mono ?_
        intro e w1 hd
        have hd2 := (unhide HW).lift hd
        obtain ⟨rfl, -, -⟩ := hd
        have HR := hide hd2.2
        clear hd2 CM HW cg pb T0
        go_wp2_with fail
        go_ret
        exact ⟨rfl, ⟨sl, (unhide HR).1⟩, (unhide HR).2⟩
      | false =>
        obtain ⟨e0, f1, f2, f3⟩ := mark_fields hi
        have e1 : K.beginE S z = 0 := by unfold Wk.beginE; rw [if_neg (by simpa using hl), if_pos ha, e0]
        have e2 : K.beginS S z = S.markS := by unfold Wk.beginS; rw [if_pos ⟨hl, ha⟩]
        have e3 : K.beginK S z = ⟨K.b, K.sl, z, S.w, S.d, stepsOf S.w S.b⟩ := by unfold Wk.beginK; rw [if_pos ⟨hl, ha, hi⟩]
        rw [e1, e2, e3]
        have CM := hide (mark_obj M.toMemL h.st)
        rw [e0] at CM
        have T1 := hide (WH.stay M.toMemL b x S.markS A K sl)
        have CK := hide (fun (w' : World) (r : SRep m S.markS w' b) => marked_obj r)
        have CB := hide (fun (w' : World) (r : SRep m S.markS w' b) => base_obj r)
        rw [f1] at CK
        rw [f2, f3] at CB
        have CS := hide (fun w' => zsteps_any S.w S.b w')
        have sk := s147_tab S.w
        have sb := s147_tab S.b
        have sd := s8_dir S.d
        have Xk := hide (tabV_one S.w)
        have Xb := hide (tabV_one S.b)
        have Xd := hide (dirV_one S.d)
        have ZT := hide zero_tab
        have ZD := hide zero_dirz
        have SZk : Hid ((tabV fun _ => ze).size = (tabV S.w).size) := by show _ = _; rw [tabV_size, tabV_size]
        have SZb : Hid ((tabV fun _ => ze).size = (tabV S.b).size) := by show _ = _; rw [tabV_size, tabV_size]
        have SZd : Hid ((dirV fun _ => 0).size = (dirV S.d).size) := by show _ = _; rw [dirV_size, dirV_size]
        have BC := hide (fun a n c => built_ck z S.w S.d a n c)
        have HW := hide h
        clear e0 e1 e2 e3 f1 f2 f3 ha hi a1 a2 a3 hl hlen h O0
        generalize S.markS = S1 at *
        generalize hTK : tabV S.w = TK at *
        generalize hTB : tabV S.b = TB at *
        generalize hDV : dirV S.d = DV at *
        generalize (tabV fun _ => ze) = ZTV at *
        generalize (dirV fun _ => 0) = ZDV at *
        generalize K.gen = gen at *
        go_enter Tryz.func26, Tryz.ntmps26
        go_wp2_with fail
        refine (unhide CL).mono ?_
        rintro e w ⟨rfl, rfl⟩
        clear CL
        go_wp2_with fail
        refine (unhide CM).mono ?_
        intro e w1 hd
        have hd2 := (unhide HW).lift hd
        obtain ⟨rfl, -, -⟩ := hd
        have O1 : Hid (Held W (WH W m b x St S1 A K sl) w w1 G []) := (Held.start (WH.stay M.toMemL b x S A K sl) (unhide HW)).call ((WH.stay M.toMemL b x S1 A K sl).ls _ _ _ hd2.2.1 (by simp)) (fun k hk => hd2.2.2 k (by simpa using hk))
        clear hd2 CM HW cg pb T0
        have pb := (unhide O1).st.rep.pb
        go_wp2_with fail
        refine (unhide CK _ (unhide O1).st.st.rep).mono ?_
        rintro e w2 ⟨rfl, hb⟩
        have O2 := hide (((unhide O1).below (unhide T1) hb).alloc (unhide T1) (.cells TK 66))
        clear hb O1 CK pb
        go_upto_region 9 with (first | (with_reducible refine wpList_allocZ (by with_unfolding_all rfl) 66 (by with_unfolding_all rfl) ZTV (unhide ZT) ?_) | (with_reducible refine wpList_store_row (by with_unfolding_all rfl) 66 _ _ (by with_unfolding_all rfl) w2.heap.size TK (by with_unfolding_all rfl) (by with_unfolding_all rfl) 66 ZTV (heap_new w2 _) sk (unhide SZk) (unhide Xk) ?_; rw [setRow_alloc]))
        obtain ⟨g6, hg6⟩ : ∃ g, g = w2.heap.size := ⟨_, rfl⟩
        rw [← hg6] at O2 ⊢
        clear hg6
        generalize w2.alloc (.cells TK 66) = w3 at *
        have pb := (unhide O2).st.rep.pb
        go_wp2_with fail
        refine (unhide CB _ (unhide O2).st.st.rep).mono ?_
        rintro e w4 ⟨rfl, hb⟩
        have O3 := hide ((unhide O2).below (unhide T1) hb)
        clear hb O2 CB pb
        have h6 : g6 < w4.heap.size := (unhide O3).lt (g6, _) List.mem_cons_self
        have e9 : (w4.alloc (.cells ZTV 66)).heap.size = w4.heap.size + 1 := by simp
        have O4 := hide (((unhide O3).alloc (unhide T1) (.cells ZTV 66)).alloc (unhide T1) (.cells ZDV 67))
        rw [e9] at O4
        have H8 := hide ((unhide O4).at w4.heap.size (.cells ZTV 66) (by simp))
        have O5 := hide ((unhide O4).row (unhide T1) w4.heap.size ZTV 66 (0, 0) (by simp) TB)
        have M9 : ((w4.heap.size + 1, Obj.cells ZDV 67 (0, 0)) : Nat × Obj) ∈ (w4.heap.size, Obj.cells TB 66 (0, 0)) :: [(w4.heap.size + 1, Obj.cells ZDV 67 (0, 0)), (w4.heap.size, Obj.cells ZTV 66 (0, 0)), (g6, Obj.cells TK 66 (0, 0))].filter (fun p => p.1 != w4.heap.size) := List.mem_cons_of_mem _ (List.mem_filter.2 ⟨by simp, by simp⟩)
        have H9 := hide ((unhide O5).at (w4.heap.size + 1) (.cells ZDV 67) M9)
        have O6 := hide ((unhide O5).row (unhide T1) (w4.heap.size + 1) ZDV 67 (0, 0) M9 DV)
        have O7 := hide ((unhide O6).less (unhide T1) (L' := [(w4.heap.size + 1, .cells DV 67), (w4.heap.size, .cells TB 66), (g6, .cells TK 66)]) (fun p hp => by
          rcases List.mem_cons.1 hp with rfl | hp
          · exact List.mem_cons_self
          · rcases List.mem_cons.1 hp with rfl | hp
            · exact List.mem_cons_of_mem _ (List.mem_filter.2 ⟨List.mem_cons_self, by simp⟩)
            · rcases List.mem_cons.1 hp with rfl | hp
              · refine List.mem_cons_of_mem _ (List.mem_filter.2 ⟨List.mem_cons_of_mem _ (List.mem_filter.2 ⟨by simp, ?_⟩), ?_⟩)
                · simp; omega
                · simp; omega
              · cases hp))
        have H9' : Hid ((((w4.alloc (.cells ZTV 66)).alloc (.cells ZDV 67)).setRow w4.heap.size TB).heap[(w4.alloc (.cells ZTV 66)).heap.size]? = some (.cells ZDV 67 (0, 0))) := by show _ = _; rw [e9]; exact unhide H9
        have E9 := hide e9
        clear O3 O4 O5 O6 M9 e9
        go_upto_region 10 with (first | (with_reducible refine wpList_allocZ (by with_unfolding_all rfl) 66 (by with_unfolding_all rfl) ZTV (unhide ZT) ?_) | (with_reducible refine wpList_allocZ (by with_unfolding_all rfl) 67 (by with_unfolding_all rfl) ZDV (unhide ZD) ?_) | (with_reducible refine wpList_store_row (by with_unfolding_all rfl) 66 _ _ (by with_unfolding_all rfl) w4.heap.size TB (by with_unfolding_all rfl) (by with_unfolding_all rfl) 66 ZTV (unhide H8) sb (unhide SZb) (unhide Xb) ?_) | (with_reducible refine wpList_store_row (by with_unfolding_all rfl) 67 _ _ (by with_unfolding_all rfl) (w4.heap.size + 1) DV (by with_unfolding_all rfl) (by with_unfolding_all rfl) 67 ZDV (unhide H9) sd (unhide SZd) (unhide Xd) ?_) | (with_reducible refine wpList_store_row (by with_unfolding_all rfl) 67 _ _ (by with_unfolding_all rfl) (w4.alloc (.cells ZTV 66)).heap.size DV (by with_unfolding_all rfl) (by with_unfolding_all rfl) 67 ZDV (unhide H9') sd (unhide SZd) (unhide Xd) ?_))
        try rw [unhide E9]
        clear H8 H9 H9' E9 ZT ZD SZk SZb SZd Xk Xb Xd
        obtain ⟨g8, hg8⟩ : ∃ g, g = w4.heap.size := ⟨_, rfl⟩
        rw [← hg8] at O7 h6 ⊢
        clear hg8
        generalize (((w4.alloc (.cells ZTV 66)).alloc (.cells ZDV 67)).setRow g8 TB).setRow (g8 + 1) DV = w5 at *
        have O8 := hide ((unhide O7).drew (unhide T1))
        have RG : Hid (∀ (S' : World → (Nat → Prop) → Prop) (wx : World) (L : List (Nat × Obj)) (g : Nat) (V : Array Value) (t : TypeId), Held W S' w wx G L → (g, .cells V t) ∈ L → wx.rangeAt g 0 V.toList) := fun S' wx L g V t O hm j v hv => by
          rw [cell_of_block (O.at g (.cells V t) hm), Nat.zero_add, ← Array.getElem?_toList]; exact hv
        have skl : (Tryz.prog.info? 66).map (·.size) = some TK.toList.length := by rw [Array.length_toList]; exact sk
        have sbl : (Tryz.prog.info? 66).map (·.size) = some TB.toList.length := by rw [Array.length_toList]; exact sb
        have sdl : (Tryz.prog.info? 67).map (·.size) = some DV.toList.length := by rw [Array.length_toList]; exact sd
        refine wp_region_noPanic ?_
        refine wp_region_held_drew (S := fun w' => w'.rangeAt g6 0 TK.toList ∧ w'.rangeAt (g8 + 1) 0 DV.toList ∧ w'.rangeAt g8 0 TB.toList) (by kernel_rfl) ⟨unhide RG _ _ _ g6 TK 66 (unhide O8) (by simp), unhide RG _ _ _ (g8 + 1) DV 67 (unhide O8) (by simp), unhide RG _ _ _ g8 TB 66 (unhide O8) (by simp)⟩ (fun hHeld => ?_)
        clear O7
        generalize w5.drew = w6 at *
        refine take_at 0 58 (v := ?_) rfl rfl (by kernel_rfl) (by kernel_rfl) (by kernel_rfl) (Or.inl ⟨by rfl, ?_⟩) hHeld ?_
        rotate_left
        · intro w hSw; go_simp; with_reducible rfl
        simp only [Act.put, List.setIfInBounds_toArray, List.set_cons_zero, List.set_cons_succ]
        refine take_at 1 59 (v := ?_) rfl rfl (by kernel_rfl) (by kernel_rfl) (by kernel_rfl) (Or.inl ⟨by rfl, ?_⟩) hHeld ?_
        rotate_left
        · intro w hSw; go_simp; with_reducible rfl
        simp only [Act.put, List.setIfInBounds_toArray, List.set_cons_zero, List.set_cons_succ]
        refine take_at 2 60 rfl rfl (by kernel_rfl) (by kernel_rfl) (by kernel_rfl) (yieldsIf_load_mid (by rfl) 66 _ rfl g6 0 rfl TK.toList _ (fun w' h => h.1) Tryz.underlying66 rfl skl) hHeld ?_
        simp only [Act.put, List.setIfInBounds_toArray, List.set_cons_zero, List.set_cons_succ]
        refine take_at 3 61 rfl rfl (by kernel_rfl) (by kernel_rfl) (by kernel_rfl) (yieldsIf_load_mid (by rfl) 67 _ rfl (g8 + 1) 0 rfl DV.toList _ (fun w' h => h.2.1) Tryz.underlying67 rfl sdl) hHeld ?_
        simp only [Act.put, List.setIfInBounds_toArray, List.set_cons_zero, List.set_cons_succ]
        refine take_at 4 62 rfl rfl (by kernel_rfl) (by kernel_rfl) (by kernel_rfl) (yieldsIf_load_mid (by rfl) 66 _ rfl g6 0 rfl TK.toList _ (fun w' h => h.1) Tryz.underlying66 rfl skl) hHeld ?_
        simp only [Act.put, List.setIfInBounds_toArray, List.set_cons_zero, List.set_cons_succ]
        refine take_at 5 63 rfl rfl (by kernel_rfl) (by kernel_rfl) (by kernel_rfl) (yieldsIf_load_mid (by rfl) 66 _ rfl g8 0 rfl TB.toList _ (fun w' h => h.2.2) Tryz.underlying66 rfl sbl) hHeld ?_
        simp only [Act.put, List.setIfInBounds_toArray, List.set_cons_zero, List.set_cons_succ]
        refine wpAnyH_ready (rs := [6]) (by kernel_rfl) (by simp) ?_
        refine AllReadyH.cons rfl (fun K2 hK => ?_) AllReadyH.nil
        go_simp
        refine (unhide CS _).mono ?_
        rintro e w7 ⟨v, rfl, hk, hr⟩
        have O9 := hide ((unhide O8).keeps (unhide T1) hk)
        have HRow := hide hr.row
        obtain ⟨g, c, hv, hg5⟩ : ∃ g c, v = .slice (some ⟨g, 0, none⟩) (stepsOf S.w S.b).length c ∧ w6.heap.size ≤ g := by
          rcases hr.2 with ⟨_, h0⟩ | ⟨g, cap, cur, rfl, h1, -⟩
          · have : 3 ≤ (stepsOf S.w S.b).length := by unfold stepsOf lastSteps; simp; omega
            omega
          · exact ⟨g, cap, rfl, h1⟩
        have hglt : g < w7.heap.size := (hr.lt g (by rw [hv]; rfl)).2
        obtain ⟨o, ho⟩ : ∃ o, w7.heap[g]? = some o := ⟨w7.heap[g], Array.getElem?_eq_getElem hglt⟩
        have O10 := hide (((unhide O8).joinsZ (unhide T1) hk g o hg5 ho).less (unhide T1) (L' := [(g, o)]) (by simp))
        clear hk hr O8 CS hglt
        subst hv
        go_wp2_with fail
        refine hK.out _ _ ⟨unhide RG _ _ _ g6 TK 66 (unhide O9) (by simp), unhide RG _ _ _ (g8 + 1) DV 67 (unhide O9) (by simp), unhide RG _ _ _ g8 TB 66 (unhide O9) (by simp)⟩ (fun hNew => ?_)
        clear hK K2 hHeld
        have hHeld := hNew
        clear hNew
        refine take_at 7 65 rfl rfl (by kernel_rfl) (by kernel_rfl) (by kernel_rfl) (yieldsIf_build4 (by rfl) 153 (.tmp 59) (.tmp 60) (.tmp 61) (.tmp 64) rfl (.int .i64 z) (.agg TK) (.agg DV) (.slice (some ⟨g, 0, none⟩) (stepsOf S.w S.b).length c) rfl rfl rfl rfl _ (unhide BC _ _ _)) hHeld ?_
        simp only [Act.put, List.setIfInBounds_toArray, List.set_cons_zero, List.set_cons_succ]
        refine take_at 8 66 (v := ?_) rfl rfl (by kernel_rfl) (by kernel_rfl) (by kernel_rfl) (Or.inl ⟨by rfl, ?_⟩) hHeld ?_
        rotate_left
        · intro w hSw; go_simp; with_reducible rfl
        simp only [Act.put, List.setIfInBounds_toArray, List.set_cons_zero, List.set_cons_succ]
        refine take_at 9 67 (v := ?_) rfl rfl (by kernel_rfl) (by kernel_rfl) (by kernel_rfl) (Or.inl ⟨by rfl, ?_⟩) hHeld ?_
        rotate_left
        · intro w hSw; go_simp; with_reducible rfl
        simp only [Act.put, List.setIfInBounds_toArray, List.set_cons_zero, List.set_cons_succ]
        refine wpAnyH_ready (rs := [10]) (by kernel_rfl) (by simp) ?_
        refine AllReadyH.cons rfl (fun K2 hK => ?_) AllReadyH.nil
        refine (if_pos (by rfl)).mpr ?_
        have TBx : w7.there x 7 (ckV z S.w S.d (.slice (some ⟨g, 0, none⟩) (stepsOf S.w S.b).length c)).size := by rw [ckV_size]; exact Blk.there (unhide O10).st.rep _ _ (by decide)
        refine wp_store_mid 153 (.tmp 67) (.tmp 65) rfl x 7 (ckV z S.w S.d (.slice (some ⟨g, 0, none⟩) (stepsOf S.w S.b).length c)) rfl rfl TBx (s157 _ _ _ _) (ckV_one _ _ _ _ _ _) ?_
        have hgp := (unhide O10).2.1 (g, o) List.mem_cons_self
        have FIN := (unhide O10).st.setC M.toMemL (G := G) (fun k hk => Or.inl hk) z S.w S.d (.slice (some ⟨g, 0, none⟩) (stepsOf S.w S.b).length c) (stepsOf S.w S.b) (unhide HRow) (fun g' e => by
          have : g = g' := by simpa [Value.ownBlock] using e
          subst this
          exact ⟨Or.inr ⟨o, List.mem_cons_self⟩, hgp.2.2, hgp.2.1⟩)
        have F1 := hide FIN.1
        have F2 : Hid (Same G w (w7.setCells x 7 (ckV z S.w S.d (.slice (some ⟨g, 0, none⟩) (stepsOf S.w S.b).length c)).toList)) := (unhide O10).2.2.trans fun k hk => FIN.2 k (Or.inl hk)
        have KX := keeps_cells x (ckV z S.w S.d (.slice (some ⟨g, 0, none⟩) (stepsOf S.w S.b).length c)).toList w7 7
        have hnx := (unhide O9).st.nx
        have O11 : ∀ g' V t, (g', Obj.cells V t (0, 0)) ∈ [(g8 + 1, Obj.cells DV 67 (0, 0)), (g8, Obj.cells TB 66 (0, 0)), (g6, Obj.cells TK 66 (0, 0))] → (w7.setCells x 7 (ckV z S.w S.d (.slice (some ⟨g, 0, none⟩) (stepsOf S.w S.b).length c)).toList).rangeAt g' 0 V.toList := fun g' V t hm j v hv => by
          have hb := (unhide O9).at g' (.cells V t) hm
          have hb2 := (KX.block g' ((unhide O9).lt _ hm) (fun e => hnx (Or.inr ⟨_, e ▸ hm⟩))).trans hb
          rw [cell_of_block hb2, Nat.zero_add, ← Array.getElem?_toList]; exact hv
        refine hK.out _ _ ⟨O11 g6 TK 66 (by simp), O11 (g8 + 1) DV 67 (by simp), O11 g8 TB 66 (by simp)⟩ (fun hNew => ?_)
        clear hK K2 hHeld hNew O9 O10 FIN O11 KX TBx
        refine wpAnyH_done (by kernel_rfl) ?_ _
        refine NoPanic.normal ?_
        generalize w7.setCells x 7 _ = w8 at *
        go_wp2_with fail
        go_ret
        exact ⟨rfl, ⟨_, unhide F1⟩, unhide F2⟩
    · have ha : K.argB z = false := by simpa using ha
      have hc : z < 0 ∨ (0 ≤ z ∧ z > 1099511627776) ∨ (0 ≤ z ∧ z ≤ 1099511627776 ∧ K.gen = 1099511627776) := by
        unfold Wk.argB two40 at ha
        have := of_decide_eq_false ha
        by_cases q1 : z < 0
        · exact Or.inl q1
        · by_cases q2 : z > 1099511627776
          · exact Or.inr (Or.inl ⟨by omega, q2⟩)
          · refine Or.inr (Or.inr ⟨by omega, by omega, ?_⟩)
            by_cases q3 : K.gen = 1099511627776
            · exact q3
            · exact absurd ⟨by omega, by omega, q3⟩ this
      have e1 : K.beginE S z = 1 := by unfold Wk.beginE; rw [if_neg (by simpa using hl), if_neg (by simp [ha])]
      have e2 : K.beginS S z = S := by unfold Wk.beginS; rw [if_neg (by simp [ha])]
      have e3 : K.beginK S z = K := by unfold Wk.beginK; rw [if_neg (by simp [ha])]
      rw [e1, e2, e3]
      have HH : Hid (WHas W m b x St S A K w G) := ⟨sl, h⟩
      clear e1 e2 e3 ha h O0 T0
      clear hl hlen
      generalize K.gen = gen at *
      rcases hc with hc | ⟨hc0, hc⟩ | ⟨hc0, hc1, hc⟩
      · go_enter Tryz.func26, Tryz.ntmps26
        go_wp2_with fail
        refine (unhide CL).mono ?_
        rintro e w ⟨rfl, rfl⟩
        go_wp2_with fail
        go_ret
        exact ⟨rfl, unhide HH, fun _ _ => rfl⟩
      · go_enter Tryz.func26, Tryz.ntmps26
        go_wp2_with fail
        refine (unhide CL).mono ?_
        rintro e w ⟨rfl, rfl⟩
        go_wp2_with fail
        go_ret
        exact ⟨rfl, unhide HH, fun _ _ => rfl⟩
      · subst hc
        go_enter Tryz.func26, Tryz.ntmps26
        go_wp2_with fail
        refine (unhide CL).mono ?_
        rintro e w ⟨rfl, rfl⟩
        go_wp2_with fail
        go_ret
        exact ⟨rfl, unhide HH, fun _ _ => rfl⟩
  · skip
    have T0 := hide (WH.stay M.toMemL b x S A K sl)
    have O0 := hide (Held.start (unhide T0) h)
    have CL := hide (wleft_any h)
    have pb := h.rep.pb
    have hpos : (K.l.length : Int) > 0 := by
      have := List.length_pos_iff.2 hl
      omega
    have e1 : K.beginE S z = 3 := by unfold Wk.beginE; rw [if_pos hl]
    have e2 : K.beginS S z = S := by unfold Wk.beginS; rw [if_neg (fun c => hl c.1)]
    have e3 : K.beginK S z = K := by unfold Wk.beginK; rw [if_neg (fun c => hl c.1)]
    rw [e1, e2, e3]
    have HH : Hid (WHas W m b x St S A K w G) := ⟨sl, h⟩
    clear e1 e2 e3 hl h O0 T0 pb
    generalize K.l.length = n at *
    go_enter Tryz.func26, Tryz.ntmps26
    go_wp2_with fail
    refine (unhide CL).mono ?_
    rintro e w ⟨rfl, rfl⟩
    go_wp2_with fail
    go_ret
    exact ⟨rfl, unhide HH, fun _ _ => rfl⟩

end Go.Proofs.YtiafhcgaikapcaaGreat


/-
  Step.
-/
namespace Go.Proofs.YtiafhcgaikapcaaGreat
open Go.ChangeShapes Go.WideShapes Go.ChangeAt Go.RowKit Go.Joins
set_option maxRecDepth 100000
set_option linter.unusedVariables false
set_option linter.unusedSimpArgs false

/-- What a step must be. -/
def Wk.fine (K : Wk) (p : Nat × Int) : Prop :=
  p.1 = 1 ∨ (p.1 = 2 ∧ 0 ≤ p.2 ∧ p.2 < 7 ∧ leafKE (rowE 49 K.k) p.2 = 0) ∨ (p = (3, 7) ∧ rootE (tab7 K.d) = 0) ∨ p.1 = 4 ∨ (p.1 = 5 ∧ (0 ≤ K.gen ∧ K.gen ≤ 1099511627776) ∧ 0 ≤ K.sl ∧ K.sl ≤ 1)
theorem doK_l (K : Wk) (S : Sto) (A : Mm) (p : Nat × Int) : (K.doK S A p).l = K.l := by
  unfold Wk.doK Wk.put
  repeat' split
  all_goals rfl
/-- One step, whichever. -/
theorem wdo_any {W w : World} {m b x : Nat} {St : Mm → World → (Nat → Prop) → Prop} {S : Sto} {A : Mm} {K : Wk} {sl : Value} {G : Nat → Prop} (M : MemX W m St) (h : WH W m b x St S A K sl w G) (hS : S.ok) (hA : A.ok 900) (p : Nat × Int) (hp : K.fine p) :
    Calls Tryz.prog (fnS p.1) #[.pointer (some ⟨x, 0, none⟩), .int .i64 p.2] w (Done (WH W m b x St (K.doS S A p) (K.doM S A p) (K.doK S A p) sl) w G (.int .i64 (K.doE S A p))) := by
  have hA2 : A.ok 1000 := ok_mono hA (by omega)
  obtain ⟨k, z⟩ := p
  rcases hp with e | ⟨e, h1, h2, h3⟩ | ⟨e, h1⟩ | e | ⟨e, h1, h2⟩
  · have e' : k = 1 := e
    subst e'
    exact wflush_any M h hA2 z
  · have e' : k = 2 := e
    subst e'
    obtain ⟨n, hn⟩ : ∃ n : Nat, z = (n : Int) := ⟨z.toNat, by have : 0 ≤ z := h1; omega⟩
    subst hn
    have hlt : n < 7 := by have : (n : Int) < 7 := h2; omega
    have := wleaf_any M h hS hA n hlt h3
    exact this
  · obtain ⟨rfl, rfl⟩ := Prod.mk.inj e
    exact wroot_any M h hS hA h1
  · have e' : k = 4 := e
    subst e'
    exact wfence_any M h hA2 z
  · have e' : k = 5 := e
    subst e'
    exact wcommit_any M h hS hA h1 h2 z

theorem call_fn (k : Nat) (u v : Value) (W : World) : Sem.run Tryz.prog (callFunc (fnS k) #[u, v]) W = .ok (.enter (fnS k) #[u, v]) W := by
  unfold fnS
  split
  · kernel_rfl
  · split
    · kernel_rfl
    · split
      · kernel_rfl
      · split
        · kernel_rfl
        · kernel_rfl

set_option maxHeartbeats 8000000 in
theorem wstep_any {W w : World} {m b x : Nat} {St : Mm → World → (Nat → Prop) → Prop} {S : Sto} {A : Mm} {K : Wk} {G : Nat → Prop} (M : MemX W m St) (h0 : WHas W m b x St S A K w G) (hS : S.ok) (hA : A.ok 900) (hf : ∀ p r, K.l = p :: r → K.fine p) :
    Calls Tryz.prog 28 #[.pointer (some ⟨x, 0, none⟩)] w (Done (WHas W m b x St (K.stepS S A) (K.stepM S A) (K.stepK S A)) w G (.tuple #[.bool (K.stepD S A), .int .i64 (K.stepE S A)])) := by
  obtain ⟨sl, h⟩ := h0
  cases hl : K.l with
  | nil =>
    obtain ⟨e1, e2, e3, e4, e5⟩ := step_idle hl S A
    rw [e1, e2, e3, e4, e5]
    have CL := hide (wleft_any h)
    have hlen : K.l.length = 0 := by rw [hl]; rfl
    rw [hlen] at CL
    have HH : Hid (WHas W m b x St S A K w G) := ⟨sl, h⟩
    clear e1 e2 e3 e4 e5 h hlen hl hf
    go_enter Tryz.func28, Tryz.ntmps28
    go_wp2_with fail
    refine (unhide CL).mono ?_
    rintro e w ⟨rfl, rfl⟩
    go_wp2_with fail
    go_ret2
    exact ⟨rfl, unhide HH, fun _ _ => rfl⟩
  | cons p r =>
    rw [stepE_cons hl, stepM_cons hl]
    have ES := hide (stepS_cons hl S A)
    have EK := hide (stepK_cons hl S A)
    have ED := hide (stepD_cons hl S A)
    generalize K.stepS S A = SF at *
    generalize K.stepK S A = KF at *
    generalize K.stepD S A = DF at *
    have CL := hide (wleft_any h)
    have T0 := hide (WH.stay M.toMemL b x S A K sl)
    have hrow := h.row
    rw [hl] at hrow
    have hlen : K.l.length = r.length + 1 := by rw [hl]; rfl
    rw [hlen] at CL
    have hfp := hf p r hl
    have CD := hide (fun (w' : World) (G' : Nat → Prop) (h' : WH W m b x St S A K sl w' G') => wdo_any M h' hS hA p hfp)
    obtain ⟨g, o, c, hv, hc, r1, r2⟩ := hrow.first
    have cs := h.rep.cs
    rw [hv] at cs
    have c1 : w.cell? ⟨g, o, none⟩ = some (fnV p.1) := r1 0 _ rfl
    have c2 : w.cell? ⟨g, o + 1, none⟩ = some (.int .i64 p.2) := r1 1 _ rfl
    have KL := doK_l K S A p
    have HKL : Hid ((K.doK S A p).l = p :: r) := KL.trans hl
    have hSd := doS_ok hS K A p
    have O0 := hide ((Held.start (unhide T0) h).alloc (unhide T0) (.cells #[fnV p.1, .int .i64 p.2] 165))
    have HSL := hide hv
    have R1 := hide r1
    have R2 := hide r2
    have s2 : (Tryz.prog.info? 165).map (·.size) = some (spV p).length := by show _ = some 2; kernel_rfl
    have s2a : (Tryz.prog.info? 165).map (·.size) = some (#[fnV p.1, .int .i64 p.2] : Array Value).size := by show _ = some 2; kernel_rfl
    have Z2 : Hid ((Tryz.prog.info? 165).map (·.zero) = some (some (.agg #[.nilFunc, .int .i64 0]))) := by show _ = _; kernel_rfl
    have SZ2 : Hid ((#[.nilFunc, .int .i64 0] : Array Value).size = (#[fnV p.1, .int .i64 p.2] : Array Value).size) := rfl
    have X2 : Hid ((#[fnV p.1, .int .i64 p.2] : Array Value).all (·.oneCell') = true) := by show _ = _; unfold fnV; simp [Value.oneCell']
    have hsp : (spV p).toArray = #[fnV p.1, .int .i64 p.2] := rfl
    clear hrow hlen hf hfp h r1 r2 KL hl hv hS hA
    unfold fnV at s2a SZ2 X2 hsp
    have T1 := hide (WH.stay M.toMemL b x (K.doS S A p) (K.doM S A p) (K.doK S A p) sl)
    have hcall : ∀ W, Sem.run Tryz.prog (callFunc (fnS p.1) #[.pointer (some ⟨x, 0, none⟩), .int .i64 p.2]) W = .ok (.enter (fnS p.1) #[.pointer (some ⟨x, 0, none⟩), .int .i64 p.2]) W := fun W => call_fn _ _ _ W
    unfold fnV at c1 O0
    generalize hspv : spV p = sp at *
    clear hspv
    generalize fnS p.1 = F at *
    generalize p.2 = z at *
    generalize K.doE S A p = E at *
    generalize K.doS S A p = S2 at *
    generalize K.doM S A p = A2 at *
    generalize K.doK S A p = K2 at *
    have hlp : (((r.length + 1 : Nat) : Int) == 0) = false := by simp; omega
    have hn : r.length + 1 ≠ 0 := by omega
    go_enter Tryz.func28, Tryz.ntmps28
    go_wp2_with fail
    refine (unhide CL).mono ?_
    rintro e w ⟨rfl, rfl⟩
    clear CL
    go_upto_region 4 with (first | (with_reducible refine wpList_load_mid (by with_unfolding_all rfl) 165 _ (by with_unfolding_all rfl) g o (by with_unfolding_all rfl) sp _ (unhide R1) Tryz.underlying165 (by with_unfolding_all rfl) s2 ?_; rw [hsp]) | (with_reducible refine wpList_allocZ (by with_unfolding_all rfl) 165 (by with_unfolding_all rfl) #[.nilFunc, .int .i64 0] (unhide Z2) ?_) | (with_reducible refine wpList_store_row (by with_unfolding_all rfl) 165 _ _ (by with_unfolding_all rfl) w.heap.size #[.func (.func F) #[] #[], .int .i64 z] (by with_unfolding_all rfl) (by with_unfolding_all rfl) 165 #[.nilFunc, .int .i64 0] (heap_new w _) s2a (unhide SZ2) (unhide X2) ?_; rw [setRow_alloc]))
    obtain ⟨g4, hg4⟩ : ∃ g4, g4 = w.heap.size := ⟨_, rfl⟩
    rw [← hg4] at O0 ⊢
    clear hg4
    generalize w.alloc (.cells #[.func (.func F) #[] #[], .int .i64 z] 165) = w1 at *
    have c40 : w1.cell? ⟨g4, 0, none⟩ = some (.func (.func F) #[] #[]) := by rw [cell_of_block ((unhide O0).at g4 (.cells #[.func (.func F) #[] #[], .int .i64 z] 165) (by simp))]; rfl
    have c41 : w1.cell? ⟨g4, 1, none⟩ = some (.int .i64 z) := by rw [cell_of_block ((unhide O0).at g4 (.cells #[.func (.func F) #[] #[], .int .i64 z] 165) (by simp))]; rfl
    clear cs c1 c2 R1 s2 s2a Z2 SZ2 X2 hsp
    go_wp2_with fail
    refine (unhide CD _ _ (unhide O0).st).mono ?_
    intro e w2 hd
    have O1 := hide (((unhide O0).call (St' := WH W m b x St S2 A2 K2 sl) hd.2.1 hd.2.2).less (unhide T1) (L' := []) (by simp))
    obtain ⟨rfl, -, -⟩ := hd
    clear CD O0 c40 c41 hcall T0
    by_cases h10 : E = 10
    · subst h10
      have ES2 := hide ((unhide ES).trans (if_pos rfl))
      have EK2 := hide ((unhide EK).trans (if_pos rfl))
      have ED2 : Hid (DF = false) := (unhide ED).trans (decide_eq_false (fun c => by simp at c))
      clear ES EK ED
      have pb := (unhide O1).st.rep.pb
      have CA := hide (abort_any M.toMemL (unhide O1).st.st hSd)
      have T2 := hide (WH.stay M.toMemL b x S2.abortS A2 K2 sl)
      generalize S2.abortS = S3 at *
      generalize S2.doneE = E3 at *
      go_wp2_with fail
      refine (unhide CA).mono ?_
      intro e w3 hd
      have hd2 := (unhide O1).st.lift hd
      obtain ⟨rfl, -, -⟩ := hd
      have O2 := hide ((unhide O1).call (St' := WH W m b x St S3 A2 K2 sl) hd2.2.1 hd2.2.2)
      clear hd2 O1 CA pb
      have FIN := (unhide O2).st.setC M.toMemL (G := G) (fun k hk => Or.inl hk) 0 (fun _ => ze) (fun _ => 0) (.slice none 0 0) [] (Or.inl ⟨rfl, none, 0, rfl⟩) (fun g' e => by simp [Value.ownBlock] at e)
      have F1 := hide FIN.1
      have F2 : Hid (Same G w (w3.setCells x 7 (ckV 0 (fun _ => ze) (fun _ => 0) (.slice none 0 0)).toList)) := (unhide O2).2.2.trans fun k hk => FIN.2 k (Or.inl hk)
      have TBx : Hid (w3.there x 7 (ckV 0 (fun _ => ze) (fun _ => 0) (.slice none 0 0)).size) := by show w3.there _ _ _; rw [ckV_size]; exact Blk.there (unhide O2).st.rep _ _ (by decide)
      have BB := hide built_ck0
      have XB := hide (ckV_one 0 (fun _ => ze) (fun _ => 0) none 0 0)
      have sB := s157 0 (fun _ => ze) (fun _ => 0) (.slice none 0 0)
      clear FIN O2
      generalize ckV 0 (fun _ => ze) (fun _ => 0) (.slice none 0 0) = CV at *
      go_wp2_with (first | (with_reducible refine wpList_build0 (by with_unfolding_all rfl) 153 (by with_unfolding_all rfl) CV (unhide BB) ?_) | (with_reducible refine wpList_store_mid (by with_unfolding_all rfl) 153 _ _ (by with_unfolding_all rfl) x 7 CV (by with_unfolding_all rfl) (by with_unfolding_all rfl) (unhide TBx) sB (unhide XB) ?_))
      go_ret2
      rw [unhide ES2, unhide EK2, unhide ED2]
      exact ⟨rfl, ⟨_, unhide F1⟩, unhide F2⟩
    · have h10b : (E == 10) = false := by simpa using h10
      have ES2 := hide ((unhide ES).trans (if_neg h10))
      have EK2 := hide ((unhide EK).trans (if_neg h10))
      clear ES EK h10
      by_cases h0 : E = 0
      · subst h0
        have EK3 := hide ((unhide EK2).trans (if_pos rfl))
        have cs := (unhide O1).st.rep.cs
        rw [unhide HSL] at cs
        have hc1 : 1 ≤ c := by omega
        have f163 := (unhide O1).st.rep.fr 163
        clear EK2 h10b
        have hrow2 := (unhide O1).st.row
        rw [unhide HKL] at hrow2
        obtain ⟨g', o', c', hv', -, -, r2'⟩ := hrow2.first
        rw [unhide HSL] at hv'
        obtain ⟨e1, -, -⟩ := Value.slice.inj hv'
        have e1' := Option.some.inj e1
        obtain ⟨e2, e3, -⟩ := Addr.mk.inj e1'
        subst e2 e3
        have RR := hide r2'
        have OB : Hid (sl.ownBlock = some g) := by show _ = _; rw [unhide HSL]; rfl
        have K2L : Hid (K2.less r = K2.less r) := rfl
        clear hrow2 hv' e1 e1' r2'
        by_cases hc2 : c = 1
        · have hr0 : r = [] := List.eq_nil_of_length_eq_zero (by omega)
          subst hr0 hc2
          have O2 := hide (Held.turn (unhide O1) ((unhide O1).st.setS M.toMemL (.slice (some ⟨g, o, none⟩) 0 0) [] (Or.inl ⟨rfl, _, 0, rfl⟩) (fun q e => by rw [unhide OB]; exact e)))
          clear O1 RR hc hc1
          go_upto_region 11 with fail
          clear cs f163
          generalize w2.setCell ⟨x, 163, none⟩ (.slice (some ⟨g, o, none⟩) 0 0) = w3 at *
          have CL := hide (wleft_any (unhide O2).st)
          have hl0 : (K2.less []).l.length = 0 := rfl
          rw [hl0] at CL
          go_wp2_with fail
          refine (unhide CL).mono ?_
          rintro e w4 ⟨rfl, rfl⟩
          go_wp2_with fail
          go_ret2
          rw [unhide ES2, unhide EK3, unhide ED]
          exact ⟨by simp, ⟨_, (unhide O2).done (WH.stay M.toMemL b x S2 A2 (K2.less []) _) (.tuple #[]) |>.2.1⟩, (unhide O2).2.2⟩
        · have O2 := hide (Held.turn (unhide O1) ((unhide O1).st.setS M.toMemL (.slice (some ⟨g, o + 2, none⟩) r.length (c - 1)) r (Or.inr ⟨g, o + 2, c - 1, rfl, by omega, unhide RR⟩) (fun q e => by rw [unhide OB]; exact e)))
          clear O1 RR
          go_upto_region 11 with fail
          clear cs f163
          generalize w2.setCell ⟨x, 163, none⟩ (.slice (some ⟨g, o + 2, none⟩) r.length (c - 1)) = w3 at *
          have CL := hide (wleft_any (unhide O2).st)
          have hl0 : (K2.less r).l.length = r.length := rfl
          rw [hl0] at CL
          have hd0 : Hid (decide (True ∧ r = []) = ((r.length : Int) == 0)) := by
            show _ = _
            cases r with
            | nil => rfl
            | cons a t =>
              have h1 : (((a :: t).length : Int) == 0) = false := beq_eq_false_iff_ne.2 (by rw [List.length_cons]; omega)
              rw [h1]; simp
          go_wp2_with fail
          refine (unhide CL).mono ?_
          rintro e w4 ⟨rfl, rfl⟩
          go_wp2_with fail
          go_ret2
          rw [unhide ES2, unhide EK3, unhide ED, unhide hd0]
          exact ⟨rfl, ⟨_, (unhide O2).done (WH.stay M.toMemL b x S2 A2 (K2.less r) _) (.tuple #[]) |>.2.1⟩, (unhide O2).2.2⟩
      · have h0b : (E == 0) = false := by simpa using h0
        have h0c : (E != 0) = true := by simpa using h0
        have EK3 := hide ((unhide EK2).trans (if_neg h0))
        have ED2 : Hid (DF = false) := (unhide ED).trans (decide_eq_false (fun c => h0 c.1))
        clear EK2 ED h0
        go_wp2_with fail
        go_ret2
        rw [unhide ES2, unhide EK3, unhide ED2]
        exact ⟨rfl, ⟨_, (unhide O1).done (unhide T1) (.tuple #[]) |>.2.1⟩, (unhide O1).2.2⟩

end Go.Proofs.YtiafhcgaikapcaaGreat


/-
  A new worker; its superblock and slot.
-/
namespace Go.Proofs.YtiafhcgaikapcaaGreat
open Go.ChangeShapes Go.WideShapes Go.ChangeAt Go.RowKit Go.Joins
set_option maxRecDepth 100000
set_option linter.unusedVariables false
set_option linter.unusedSimpArgs false

theorem wpList_build4v {P : Program} {ops : Array Oper} {rest : List Oper} {o : Oper} {a : Act} {w : World} {Q : Exit → Act → World → Prop} (hw : Region.wanted o (yielded ops a.tmps) = true) (t : TypeId) (x0 x1 x2 x3 : Operand) (ho : o.op = .build t #[(0, x0), (1, x1), (2, x2), (3, x3)])
    (u0 u1 u2 u3 : Value) (h0 : a.eval x0 = u0) (h1 : a.eval x1 = u1) (h2 : a.eval x2 = u2) (h3 : a.eval x3 = u3) (cs : Array Value) (hb : P.built t [(0, u0), (1, u1), (2, u2), (3, u3)] = some cs) (h : wpList P ops Q rest (a.put o.dst (.agg cs)) w) : wpList P ops Q (o :: rest) a w :=
  wpList_step fun K hK => by
    rw [if_pos hw]
    have h4 := run_build (P := P) w t #[(0, u0), (1, u1), (2, u2), (3, u3)] cs hb
    unfold Oper.wp execOp
    simp only [ho, Sem.run_bind]
    rw [show (#[((0 : Nat), x0), (1, x1), (2, x2), (3, x3)].map fun p => (p.1, a.eval p.2)) = #[(0, u0), (1, u1), (2, u2), (3, u3)] by simp [h0, h1, h2, h3], h4]
    exact hK _ _ h
def Wk.new (s : List Int) (sl : Int) : Wk := ⟨s, sl, 0, fun _ => ze, fun _ => 0, []⟩
theorem built_wk (m b : Nat) (a0 a1 a2 a3 sl : Int) :
    Tryz.prog.built 155 [(0, .pointer (some ⟨m, 0, none⟩)), (1, .pointer (some ⟨b, 0, none⟩)), (2, .agg (iv .i64 [a0, a1, a2, a3])), (3, .int .i64 sl)] = some (tab 164 (wkF m b (Wk.new [a0, a1, a2, a3] sl) (.slice none 0 0))) := by kernel_rfl
theorem wnew_any {W w : World} {m b : Nat} {St : Mm → World → (Nat → Prop) → Prop} {S : Sto} {A : Mm} {G : Nat → Prop} (M : MemL W m St) (h : SHas W m b St S A w G) (a0 a1 a2 a3 sl : Int) :
    Calls Tryz.prog 64 #[.pointer (some ⟨m, 0, none⟩), .pointer (some ⟨b, 0, none⟩), .agg (iv .i64 [a0, a1, a2, a3]), .int .i64 sl] w fun e w' => ∃ x, e = .returned (.pointer (some ⟨x, 0, none⟩)) ∧ WHas W m b x St S A (Wk.new [a0, a1, a2, a3] sl) w' G ∧ Same G w w' := by
  have T0 := hide (SHas.stay M b S A)
  have O0 := hide ((Held.start (unhide T0) h).alloc (unhide T0) (.cells (iv .i64 [a0, a1, a2, a3]) 49))
  have B := hide (built_wk m b a0 a1 a2 a3 sl)
  have s4 := s4_sup [a0, a1, a2, a3] rfl
  have hK : Hid (Wk.new [a0, a1, a2, a3] sl = Wk.new [a0, a1, a2, a3] sl) := rfl
  clear h
  generalize hKK : Wk.new [a0, a1, a2, a3] sl = K at *
  have hl : Hid (K.l = []) := by show _ = _; rw [← hKK]; rfl
  clear hKK hK
  generalize iv .i64 [a0, a1, a2, a3] = SV at *
  generalize hC : tab 164 (wkF m b K (.slice none 0 0)) = CV at *
  have HC := hide hC
  clear hC
  go_enter Tryz.func64, Tryz.ntmps64
  go_upto_region 1 with fail
  obtain ⟨g, hg⟩ : ∃ g, g = w.heap.size := ⟨_, rfl⟩
  rw [← hg] at O0 ⊢
  clear hg
  generalize w.alloc (.cells SV 49) = w1 at *
  have K1 := hide ((unhide O0).at g (.cells SV 49) (by simp))
  have O1 := hide (((unhide O0).alloc (unhide T0) (.cells CV 155)).less (unhide T0) (L' := [(w1.heap.size, .cells CV 155)]) (by simp))
  go_wp2_with (first | (with_reducible refine wpList_load_row (by with_unfolding_all rfl) 49 _ (by with_unfolding_all rfl) g (by with_unfolding_all rfl) _ _ _ _ (unhide K1) Tryz.underlying49 (by with_unfolding_all rfl) s4 ?_) | (with_reducible refine wpList_build4v (by with_unfolding_all rfl) 155 (.tmp 9) (.tmp 10) (.tmp 11) (.tmp 12) (by with_unfolding_all rfl) (.pointer (some ⟨m, 0, none⟩)) (.pointer (some ⟨b, 0, none⟩)) (.agg SV) (.int .i64 sl) (by with_unfolding_all rfl) (by with_unfolding_all rfl) (by with_unfolding_all rfl) (by with_unfolding_all rfl) CV (unhide B) ?_))
  go_ret
  obtain ⟨q1, q2, q3⟩ := (unhide O1).2.1 _ List.mem_cons_self
  refine ⟨w1.heap.size, rfl, ⟨.slice none 0 0, ⟨?_, Or.inl ⟨unhide hl, none, 0, rfl⟩, (SHas.stay M b S A).ls _ _ _ (unhide O1).1 (fun k hk => ?_), q3, q2, fun k e => by simp [Value.ownBlock] at e⟩⟩, (unhide O1).2.2⟩
  · have h9 := heap_new w1 (.cells CV 155)
    rw [← unhide HC] at h9 ⊢
    exact Blk.of_tab h9
  · rcases hk with hk | hk | hk
    · exact Or.inl hk
    · exact Or.inr ⟨_, by rw [hk]; exact List.mem_cons_self⟩
    · simp [Value.ownBlock] at hk
theorem wsuper_any {W w : World} {m b x : Nat} {St : Mm → World → (Nat → Prop) → Prop} {S : Sto} {A : Mm} {K : Wk} {sl : Value} {G : Nat → Prop} (M : MemL W m St) (h : WH W m b x St S A K sl w G) (hb : K.b.length = 4) :
    Calls Tryz.prog 33 #[.pointer (some ⟨x, 0, none⟩)] w fun e w' => e = .returned (.tuple #[.agg (iv .i64 K.b), .int .i64 K.sl]) ∧ Below w.heap.size w w' := by
  have RB : Hid (∀ w', Below w.heap.size w w' → w'.rangeAt x 2 (iv .i64 K.b).toList ∧ w'.cell? ⟨x, 6, none⟩ = some (.int .i64 K.sl)) := fun w' hb' => by
    have := (WH.stay M b x S A K sl).bl _ _ _ h (Keeps.of_below hb')
    exact ⟨this.rep.rb hb, this.rep.csl⟩
  have O1 := hide ((Own.start w).alloc (.cells #[.int .i64 0, .int .i64 0, .int .i64 0, .int .i64 0] 49))
  have s4 := s4_sup K.b hb
  have s4l : (Tryz.prog.info? 49).map (·.size) = some (iv .i64 K.b).toList.length := by rw [Array.length_toList]; exact s4
  have X4 := hide (iv_one .i64 K.b)
  have SZ : Hid ((#[.int .i64 0, .int .i64 0, .int .i64 0, .int .i64 0] : Array Value).size = (iv .i64 K.b).size) := by show _ = _; rw [iv_size, hb]; rfl
  clear h hb
  generalize iv .i64 K.b = BV at *
  go_enter Tryz.func33, Tryz.ntmps33
  go_upto_region 1 with fail
  obtain ⟨g, hg⟩ : ∃ g, g = w.heap.size := ⟨_, rfl⟩
  rw [← hg] at O1 ⊢
  have HG : Hid (w.heap.size ≤ g) := by show _ ≤ _; omega
  clear hg
  generalize w.alloc (.cells #[.int .i64 0, .int .i64 0, .int .i64 0, .int .i64 0] 49) = w1 at *
  have O2 := hide (unhide O1).drew
  refine wp_region_noPanic ?_
  refine wp_region_held_drew (S := fun w' => Below w.heap.size w w') (by kernel_rfl) (unhide O2).1 (fun hHeld => ?_)
  clear O1
  generalize w1.drew = w2 at *
  refine take_at 0 4 (v := ?_) rfl rfl (by kernel_rfl) (by kernel_rfl) (by kernel_rfl) (Or.inl ⟨by rfl, ?_⟩) hHeld ?_
  rotate_left
  · intro w hSw; go_simp; with_reducible rfl
  simp only [Act.put, List.setIfInBounds_toArray, List.set_cons_zero, List.set_cons_succ]
  refine take_at 1 5 (v := ?_) rfl rfl (by kernel_rfl) (by kernel_rfl) (by kernel_rfl) (Or.inl ⟨by rfl, ?_⟩) hHeld ?_
  rotate_left
  · intro w hSw; go_simp; with_reducible rfl
  simp only [Act.put, List.setIfInBounds_toArray, List.set_cons_zero, List.set_cons_succ]
  refine take_at 2 6 (v := ?_) rfl rfl (by kernel_rfl) (by kernel_rfl) (by kernel_rfl) (Or.inl ⟨by rfl, ?_⟩) hHeld ?_
  rotate_left
  · intro w hSw; go_simp; with_reducible rfl
  simp only [Act.put, List.setIfInBounds_toArray, List.set_cons_zero, List.set_cons_succ]
  refine take_at 3 7 rfl rfl (by kernel_rfl) (by kernel_rfl) (by kernel_rfl) (yieldsIf_load_mid (by rfl) 49 _ rfl x 2 rfl BV.toList _ (fun w' h => (unhide RB w' h).1) Tryz.underlying49 rfl s4l) hHeld ?_
  simp only [Act.put, List.setIfInBounds_toArray, List.set_cons_zero, List.set_cons_succ]
  refine take_at 4 8 (v := ?_) rfl rfl (by kernel_rfl) (by kernel_rfl) (by kernel_rfl) (Or.inl ⟨by rfl, ?_⟩) hHeld ?_
  rotate_left
  · intro w hSw; go_simp; with_reducible rfl
  simp only [Act.put, List.setIfInBounds_toArray, List.set_cons_zero, List.set_cons_succ]
  refine take_at 5 9 (v := ?_) rfl rfl (by kernel_rfl) (by kernel_rfl) (by kernel_rfl) (Or.inl ⟨by rfl, ?_⟩) hHeld ?_
  rotate_left
  · intro w hSw; go_simp; with_reducible rfl
  simp only [Act.put, List.setIfInBounds_toArray, List.set_cons_zero, List.set_cons_succ]
  refine take_at 6 10 (v := ?_) rfl rfl (by kernel_rfl) (by kernel_rfl) (by kernel_rfl) (Or.inl ⟨by rfl, ?_⟩) hHeld ?_
  rotate_left
  · intro w hSw; go_simp; with_reducible rfl
  simp only [Act.put, List.setIfInBounds_toArray, List.set_cons_zero, List.set_cons_succ]
  refine take_at 7 11 (v := ?_) rfl rfl (by kernel_rfl) (by kernel_rfl) (by kernel_rfl) (Or.inl ⟨by rfl, ?_⟩) hHeld ?_
  rotate_left
  · intro w hSw; have c := (unhide RB w hSw).2; go_simp; with_reducible rfl
  simp only [Act.put, List.setIfInBounds_toArray, List.set_cons_zero, List.set_cons_succ]
  have K1 := (unhide O2).at g (.cells #[.int .i64 0, .int .i64 0, .int .i64 0, .int .i64 0] 49) (by simp)
  refine wpAnyH_ready (rs := [8]) (by kernel_rfl) (by simp) ?_
  refine AllReadyH.cons rfl (fun K2 hK => ?_) AllReadyH.nil
  refine (if_pos (by rfl)).mpr ?_
  refine wp_store_row 49 (.tmp 2) (.tmp 7) rfl g BV rfl rfl _ _ K1 s4 (unhide SZ) (unhide X4) ?_
  have O3 := hide ((unhide O2).row g BV 49 (0, 0) #[.int .i64 0, .int .i64 0, .int .i64 0, .int .i64 0] K1 (unhide HG))
  clear hHeld K1
  refine hK.out _ _ (unhide O3).1 (fun hHeld => ?_)
  clear hK K2 O2
  generalize w2.setRow g BV = w3 at *
  refine take_at 9 3 (v := ?_) rfl rfl (by kernel_rfl) (by kernel_rfl) (by kernel_rfl) (Or.inl ⟨by rfl, ?_⟩) hHeld ?_
  rotate_left
  · intro w hSw; go_simp; with_reducible rfl
  simp only [Act.put, List.setIfInBounds_toArray, List.set_cons_zero, List.set_cons_succ]
  refine wpAnyH_done (by kernel_rfl) ?_ _
  refine NoPanic.normal ?_
  have KG := hide ((unhide O3).at g (.cells BV 49) (by simp))
  go_wp2_with fail
  exact bodyPost_ret (v := .tuple #[.agg BV, .int .i64 K.sl]) (results_two Tryz.results33 _ _ g 49 BV (0, 0) _ _ rfl rfl (unhide KG) Tryz.underlying49 rfl s4) rfl ⟨rfl, (unhide O3).1⟩

end Go.Proofs.YtiafhcgaikapcaaGreat
