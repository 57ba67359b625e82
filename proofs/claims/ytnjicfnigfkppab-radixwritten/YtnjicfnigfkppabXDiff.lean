
/-
  radix.Differ and the document's: the leaves that differ, in a row of the call's own; nothing that was there turns.
-/
import Derived.Test.YtnjicfnigfkppabXReadLeaf
import Derived.OwnWalk
import Derived.BigQuiet
namespace Go.Proofs.Ytnjicfnigfkppab
open Go.ChangeShapes Go.WideShapes Go.ChangeAt Go.RowKit Go.Joins
set_option maxRecDepth 10000
set_option linter.unusedVariables false
set_option linter.unusedSimpArgs false

def intsX (zs : List Int) : List Value := zs.map (Value.int .i64)
/-- A row of ints of the call's own. -/
def RowX (base : Nat) (v : Value) (zs : List Int) (w : World) : Prop := w.ownsRow base 3 1 v zs.length (intsX zs)
theorem info_int : (Try.prog.info? 3).map (fun i => (i.zero, i.size, i.bytes)) = some (some (.int .i64 0), 1, 8) := by kernel_rfl
theorem RowX.nil (base : Nat) (w : World) : RowX base (.slice none 0 0) [] w := World.ownsRow_nil w base 3 1
theorem RowX.same {w w' : World} {base : Nat} {v : Value} {zs : List Int} (h : RowX base v zs w) (hs : ∀ k, v.ownBlock = some k → w'.heap[k]? = w.heap[k]?) : RowX base v zs w' := by
  refine ⟨h.1, ?_⟩
  rcases h.2 with h' | ⟨g, cap, cur, rfl, h1, h2, h3⟩
  · exact Or.inl h'
  · exact Or.inr ⟨g, cap, cur, rfl, h1, (hs g rfl).trans h2, h3⟩
theorem RowX.lt {w : World} {base : Nat} {v : Value} {zs : List Int} (h : RowX base v zs w) : ∀ k, v.ownBlock = some k → base ≤ k ∧ k < w.heap.size := World.ownsRow.lt h
theorem RowX.below {w w' : World} {base : Nat} {v : Value} {zs : List Int} (h : RowX base v zs w) (hb : Below w.heap.size w w') : RowX base v zs w' :=
  h.same fun k hk => hb.block k (h.lt k hk).2
theorem RowX.mono {w : World} {base base' : Nat} {v : Value} {zs : List Int} (h : RowX base v zs w) (hb : base' ≤ base) : RowX base' v zs w := by
  refine ⟨h.1, ?_⟩
  rcases h.2 with h' | ⟨g, cap, cur, rfl, h1, h2⟩
  · exact Or.inl h'
  · exact Or.inr ⟨g, cap, cur, rfl, Nat.le_trans hb h1, h2⟩
theorem below_growX {B : Nat} {W w w' : World} {row : Option Nat} (hb : Below B W w) (hB : B ≤ w.heap.size) (hg : w.grownBy w' row) (hr : ∀ k, row = some k → B ≤ k) : Below B W w' :=
  hb.grown hg hB hr
/-- One more int behind a row of the call's own. -/
theorem push_int (W : World) {ops : Array Oper} {rest : List Oper} {o : Oper} {a : Act} {Q : Exit → Act → World → Prop} (z : Int) (hgd : o.guard = none) (s x : Operand) (ho : o.op = .call { callee := .builtin .append, args := #[s, x], argTypes := #[48, 48] })
    (base : Nat) (v : Value) (zs : List Int) (hs : a.eval s = v) (hown : RowX base v zs W) (hx : a.eval x = .slice (some ⟨W.heap.size, 0, none⟩) 1 1) (hlen : zs.length < 1000) (hbase : base ≤ W.heap.size)
    (h : ∀ v' w', RowX base v' (zs ++ [z]) w' → (W.alloc (.cells #[.int .i64 z] 3)).grownBy w' v.ownBlock → wpList Try.prog ops Q rest (a.put o.dst v') w') :
    wpList Try.prog ops Q (o :: rest) a (W.alloc (.cells #[.int .i64 z] 3)) := by
  obtain ⟨i0, hi, hz0, hz1, hz2⟩ := info_parts info_int
  refine wpList_append_own _ hgd s x 48 ho base 3 i0 (.int .i64 0) 1 8 Try.underlying48 hi hz0 hz1 hz2 rfl (by decide) v zs.length (intsX zs) hs (World.ownsRow.alloc hown _) ⟨W.heap.size, 0, none⟩ 1 1 [.int .i64 z] hx rfl ?_ ?_ ?_ ?_ ?_ ?_
  · intro j u hj
    match j, hj with
    | 0, hj =>
      simp at hj; subst hj
      rw [show (⟨W.heap.size, 0, none⟩ : Addr).add 0 = ⟨W.heap.size, 0, none⟩ from rfl, cell_of_block (heap_new W _)]; rfl
    | j + 1, hj => simp at hj
  · intro u hu; simp at hu; subst hu; rfl
  · unfold maxLen; omega
  · omega
  · simp; omega
  · intro v' w' h2 h3 _
    refine h v' w' ?_ h3
    show w'.ownsRow base 3 1 v' (zs ++ [z]).length (intsX (zs ++ [z]))
    rw [List.length_append, show intsX (zs ++ [z]) = intsX zs ++ [.int .i64 z] by simp [intsX]]
    exact h2
theorem rows7_guard : Try.prog.eqGuardType Try.prog.depth 43 = false := by kernel_rfl

/-! ### Differ -/
set_option maxHeartbeats 4000000 in
theorem differ_any (a b : List Int) (ha : a.length = 147) (hb : b.length = 147) (w : World) :
    Calls Try.prog 11 #[.agg (iv .i64 a), .agg (iv .i64 b)] w fun e w' => ∃ v, e = .returned v ∧ Below w.heap.size w w' ∧ RowX w.heap.size v (dfTo a b 7) w' := by
  have G0 := hide (fun A B : Obj => heap2 w A B)
  have GB := hide (fun A B : Obj => below_alloc2 w A B)
  have C1 : Hid (∀ (k : Nat), k < 7 → ∀ w, _) := fun k hk w => part_anyx a ha k hk w
  have C2 : Hid (∀ (k : Nat), k < 7 → ∀ w, _) := fun k hk w => part_anyx b hb k hk w
  have EQ : Hid (∀ (k : Nat) (w : World), (Op.equalIn 10000 43 (.agg (iv .i64 (partT a k))) (.agg (iv .i64 (partT b k)))).run Try.prog w = .ok (decide (partT a k = partT b k)) w) := fun k w => equal_rows 43 7 Try.underlying43 _ _ (partT_len _ _) (partT_len _ _) w
  have s1 : (Try.prog.info? 27).map (·.size) = some (iv .i64 a).toList.length := by rw [Array.length_toList]; exact s147_of a ha
  have s2 : (Try.prog.info? 27).map (·.size) = some (iv .i64 b).toList.length := by rw [Array.length_toList]; exact s147_of b hb
  have eA : (iv .i64 a).toList.toArray = iv .i64 a := by simp
  have eB : (iv .i64 b).toList.toArray = iv .i64 b := by simp
  have HS : Hid (∀ j, dfTo a b (j + 1) = if dfB a b j then dfTo a b j ++ [(j : Int)] else dfTo a b j) := dfTo_succ a b
  have HD : Hid (∀ j, dfB a b j = !decide (partT a j = partT b j)) := fun j => by unfold dfB; simp
  have HN : Hid (∀ j, (dfTo a b j).length ≤ j) := dfTo_len a b
  go_enter Try.func11, Try.ntmps11
  go_wp2_with fail
  go_loopw [5, 7] (fun v c wr => ∃ j : Nat, j ≤ 7 ∧ c = .int .i64 j ∧ Below w.heap.size w wr ∧ RowX (w.heap.size + 1 + 1) v (dfTo a b j) wr ∧
      wr.heap[w.heap.size]? = some (.cells (iv .i64 a) 27 (0, 0)) ∧ wr.heap[w.heap.size + 1]? = some (.cells (iv .i64 b) 27 (0, 0)))
     (fun _ c _ => 7 - (intOf c).toNat)
  case atStart => exact ⟨0, by omega, rfl, unhide GB _ _, RowX.nil _ _, (unhide G0 _ _).1, (unhide G0 _ _).2⟩
  case round =>
    clear G0 GB
    obtain ⟨j, hj, rfl, hbw, hrow, g0, g1⟩ := hrel
    have G0 := hide g0
    have G1 := hide g1
    have HB := hide hbw
    have HR := hide hrow
    have hs1 := lt_of_heap g1
    clear g0 g1 hbw hrow
    by_cases hlt : j < 7
    · have D1 := hide (unhide C1 j hlt)
      have D2 := hide (unhide C2 j hlt)
      have E1 := hide (unhide EQ j)
      have HS1 := hide (unhide HS j)
      have HD1 := hide (unhide HD j)
      have HN1 := hide (unhide HN j)
      clear C1 C2 EQ HS HD HN
      have RA : Hid (∀ w' : World, Below wr.heap.size wr w' → w'.rangeAt w.heap.size 0 (iv .i64 a).toList) := fun w' hb' m u hu => by
        rw [cell_of_block ((hb'.block _ (by omega)).trans (unhide G0)), Nat.zero_add, ← Array.getElem?_toList]; exact hu
      have RB : Hid (∀ w' : World, Below wr.heap.size wr w' → w'.rangeAt (w.heap.size + 1) 0 (iv .i64 b).toList) := fun w' hb' m u hu => by
        rw [cell_of_block ((hb'.block _ (by omega)).trans (unhide G1)), Nat.zero_add, ← Array.getElem?_toList]; exact hu
      go_wp2_with fail
      refine wp_region_noPanic ?_
      refine wp_region_held_drew (S := fun w' => Below wr.heap.size wr w') (by kernel_rfl) ((Below.refl _ _).drew) (fun hHeld => ?_)
      refine take_at 0 10 rfl rfl (by kernel_rfl) (by kernel_rfl) (by kernel_rfl) (yieldsIf_load_mid (by rfl) 27 _ rfl w.heap.size 0 rfl (iv .i64 a).toList _ (fun w h => unhide RA w h) Try.underlying27 rfl s1) hHeld ?_
      simp only [Act.put, List.setIfInBounds_toArray, List.set_cons_zero, List.set_cons_succ]
      refine take_at 1 11 (v := ?_) rfl rfl (by kernel_rfl) (by kernel_rfl) (by kernel_rfl) (Or.inl ⟨by rfl, ?_⟩) hHeld ?_
      rotate_left
      · intro w hSw; go_simp; with_reducible rfl
      simp only [Act.put, List.setIfInBounds_toArray, List.set_cons_zero, List.set_cons_succ]
      refine take_at 3 13 rfl rfl (by kernel_rfl) (by kernel_rfl) (by kernel_rfl) (yieldsIf_load_mid (by rfl) 27 _ rfl (w.heap.size + 1) 0 rfl (iv .i64 b).toList _ (fun w h => unhide RB w h) Try.underlying27 rfl s2) hHeld ?_
      simp only [Act.put, List.setIfInBounds_toArray, List.set_cons_zero, List.set_cons_succ]
      refine take_at 4 14 (v := ?_) rfl rfl (by kernel_rfl) (by kernel_rfl) (by kernel_rfl) (Or.inl ⟨by rfl, ?_⟩) hHeld ?_
      rotate_left
      · intro w hSw; go_simp; with_reducible rfl
      simp only [Act.put, List.setIfInBounds_toArray, List.set_cons_zero, List.set_cons_succ]
      refine wpAnyH_ready (rs := [2]) (by kernel_rfl) (by simp) ?_
      refine AllReadyH.cons rfl (fun K hK => ?_) AllReadyH.nil
      go_simp
      refine (unhide D1 _).mono ?_
      rintro e w' ⟨rfl, hbx⟩
      go_wp2_with fail
      refine hK.out _ _ (hHeld.trans (hbx.mono hHeld.size)) (fun hNew => ?_)
      clear hK K hHeld hbx
      have hHeld := hNew
      clear hNew
      refine wpAnyH_ready (rs := [5]) (by kernel_rfl) (by simp) ?_
      refine AllReadyH.cons rfl (fun K hK => ?_) AllReadyH.nil
      go_simp
      refine (unhide D2 _).mono ?_
      rintro e w' ⟨rfl, hbx⟩
      go_wp2_with fail
      refine hK.out _ _ (hHeld.trans (hbx.mono hHeld.size)) (fun hNew => ?_)
      clear hK K hHeld hbx
      have hHeld := hNew
      clear hNew
      refine take_at 6 16 rfl rfl (by kernel_rfl) (by kernel_rfl) (by kernel_rfl) (yieldsIf_neqA (by rfl) 43 43 _ _ rfl (iv .i64 (partT a j)) (iv .i64 (partT b j)) rfl rfl rows7_guard _ (unhide E1)) hHeld ?_
      simp only [Act.put, List.setIfInBounds_toArray, List.set_cons_zero, List.set_cons_succ]
      refine wpAnyH_done (by kernel_rfl) ?_ _
      refine NoPanic.normal ?_
      rename_i w5
      have hs5 := hHeld.size
      have K0 := hide ((hHeld.block _ (by omega)).trans (unhide G0))
      have K1 := hide ((hHeld.block _ (by omega)).trans (unhide G1))
      have HB5 := hide ((unhide HB).trans (hHeld.mono (by omega)))
      have HR5 := hide ((unhide HR).below hHeld)
      clear hHeld G0 G1 HB HR RA RB D1 D2 E1
      cases hd : decide (partT a j = partT b j) with
      | true =>
        have e1 : dfTo a b (j + 1) = dfTo a b j := by rw [unhide HS1, unhide HD1, hd]; rfl
        have E1 := hide e1
        clear e1 HS1 HD1 hd
        go_wp2_with fail
        go_roundw
        case rel => exact ⟨j + 1, by omega, by go_num, unhide HB5, by rw [unhide E1]; exact unhide HR5, unhide K0, unhide K1⟩
        case measure => simp [intOf]; omega
      | false =>
        have e1 : dfTo a b (j + 1) = dfTo a b j ++ [(j : Int)] := by rw [unhide HS1, unhide HD1, hd]; rfl
        have E1 := hide e1
        have hl5 : (dfTo a b j).length < 1000 := by have := unhide HN1; omega
        clear e1 HS1 HD1 hd HN1
        go_wp2_with (at_builtin; refine push_int _ (j : Int) rfl (.tmp 17) (.tmp 19) rfl (w.heap.size + 1 + 1) u5 (dfTo a b j) rfl (unhide HR5) rfl hl5 (by omega) ?_; intro v6 w6 hrow6 hgrow6; have HR6 := hide hrow6; have HG6 := hide hgrow6; clear hrow6 hgrow6)
        go_roundw
        case rel =>
          have hg := unhide HG6
          have hlt5 := (unhide HR5).lt
          refine ⟨j + 1, by omega, by go_num, below_growX ((unhide HB5).alloc (by omega) _) (by simp; omega) hg (fun k e => by have := (hlt5 k e).1; omega), by rw [unhide E1]; exact unhide HR6, ?_, ?_⟩
          · rw [hg.block _ (by simp; omega) (fun e => by have := (hlt5 _ e.symm).1; omega), Below.heap_alloc _ _ _ (by omega)]; exact unhide K0
          · rw [hg.block _ (by simp; omega) (fun e => by have := (hlt5 _ e.symm).1; omega), Below.heap_alloc _ _ _ (by omega)]; exact unhide K1
        case measure => simp [intOf]; omega
    · obtain rfl : j = 7 := by omega
      go_wp2_with fail
      go_ret
      exact ⟨_, rfl, unhide HB, (unhide HR).mono (by omega)⟩

end Go.Proofs.Ytnjicfnigfkppab
