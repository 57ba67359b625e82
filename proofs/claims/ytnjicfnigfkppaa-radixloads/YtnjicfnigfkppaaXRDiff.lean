
/-
  The document's Differ: the leaves that differ, in a row of the call's own; nothing that was there turns.
-/
import Derived.Test.YtnjicfnigfkppaaXDiff
import Derived.Test.YtnjicfnigfkppaaXRLeaf
namespace Go.Proofs.Ytnjicfnigfkppaa
open Go.ChangeShapes Go.WideShapes Go.ChangeAt Go.RowKit Go.Joins
set_option maxRecDepth 10000
set_option linter.unusedVariables false
set_option linter.unusedSimpArgs false

theorem yieldsIf_load_en {ops : Array Oper} {S : World → Prop} {op : Oper} {a : Act} (hw : Region.wanted op (yielded ops a.tmps) = true) (x : Operand) (ho : op.op = .load 23 x)
    (b o : Nat) (hx : a.eval x = .pointer (some ⟨b, o, none⟩)) (c : En) (hS : ∀ w, S w → w.rangeAt b o (ev c).toList) : YieldsIf Try.prog ops S op (.agg (ev c)) a :=
  yieldsIf_load_mid hw 23 x ho b o hx (ev c).toList _ hS Try.underlying23 rfl size3
def otB (a b : List Int) (j : Nat) : Nat → Bool
  | 0 => false
  | m + 1 => otB a b j m || !decide (enAt a (7 * j + m) = enAt b (7 * j + m))
theorem otB_iff (a b : List Int) (j : Nat) : ∀ m, otB a b j m = false ↔ ∀ i, i < m → enAt a (7 * j + i) = enAt b (7 * j + i)
  | 0 => by simp [otB]
  | m + 1 => by
    rw [otB, Bool.or_eq_false_iff, otB_iff a b j m]
    constructor
    · rintro ⟨h1, h2⟩ i hi
      by_cases e : i = m
      · subst e; simpa using h2
      · exact h1 i (by omega)
    · intro h
      exact ⟨fun i hi => h i (by omega), by simpa using h m (by omega)⟩
theorem otB_all (a b : List Int) (j : Nat) : otB a b j 7 = dfB a b j := by
  have h1 := otB_iff a b j 7
  have h2 := row_eq_iff (partT a j) (partT b j) 7 (partT_len _ _) (partT_len _ _)
  unfold dfB
  cases h : otB a b j 7 with
  | false =>
    symm
    have := h1.1 h
    rw [decide_eq_false_iff_not]
    intro hn
    exact hn (h2.2 fun i hi => by rw [partT_at _ _ _ hi, partT_at _ _ _ hi]; exact this i hi)
  | true =>
    symm
    rw [decide_eq_true_iff]
    intro e
    have := h1.2 fun i hi => by have := h2.1 e i hi; rwa [partT_at _ _ _ hi, partT_at _ _ _ hi] at this
    rw [this] at h; cases h

set_option maxHeartbeats 4000000 in
theorem rdiffer_any (a b : List Int) (ha : a.length = 147) (hb : b.length = 147) (w : World) :
    Calls Try.prog 19 #[.agg (iv .i64 a), .agg (iv .i64 b)] w fun e w' => ∃ v, e = .returned v ∧ Below w.heap.size w w' ∧ RowX w.heap.size v (dfTo a b 7) w' := by
  have G0 := hide (fun A B : Obj => heap2 w A B)
  have GB := hide (fun A B : Obj => below_alloc2 w A B)
  have HS : Hid (∀ j, dfTo a b (j + 1) = if dfB a b j then dfTo a b j ++ [(j : Int)] else dfTo a b j) := dfTo_succ a b
  have HD : Hid (∀ j, otB a b j 7 = dfB a b j) := otB_all a b
  have HN : Hid (∀ j, (dfTo a b j).length ≤ j) := dfTo_len a b
  have HA := hide ha
  have HBL := hide hb
  clear ha hb
  go_enter Try.func19, Try.ntmps19
  go_wp2_with fail
  go_loopw [5, 6] (fun v c wr => ∃ j : Nat, j ≤ 7 ∧ c = .int .i64 j ∧ Below w.heap.size w wr ∧ RowX (w.heap.size + 1 + 1) v (dfTo a b j) wr ∧
      wr.heap[w.heap.size]? = some (.cells (iv .i64 a) 24 (0, 0)) ∧ wr.heap[w.heap.size + 1]? = some (.cells (iv .i64 b) 24 (0, 0)))
     (fun _ c _ => 7 - (intOf c).toNat)
  case atStart => exact ⟨0, by omega, rfl, unhide GB _ _, RowX.nil _ _, (unhide G0 _ _).1, (unhide G0 _ _).2⟩
  case round =>
    clear G0 GB
    obtain ⟨j, hj, rfl, hbw, hrow, g0, g1⟩ := hrel
    by_cases hlt : j < 7
    · have G0 := hide g0
      have G1 := hide g1
      have HB := hide hbw
      have HR := hide hrow
      clear g0 g1 hbw hrow
      go_wp2_with fail
      go_loopw [7, 8] (fun d c wi => ∃ m : Nat, m ≤ 7 ∧ d = .bool (otB a b j m) ∧ c = .int .i64 m ∧ Below w.heap.size w wi ∧ RowX (w.heap.size + 1 + 1) u5 (dfTo a b j) wi ∧
        wi.heap[w.heap.size]? = some (.cells (iv .i64 a) 24 (0, 0)) ∧ wi.heap[w.heap.size + 1]? = some (.cells (iv .i64 b) 24 (0, 0)))
        (fun _ c _ => 7 - (intOf c).toNat)
      case atStart => exact ⟨0, by omega, rfl, rfl, unhide HB, unhide HR, unhide G0, unhide G1⟩
      case round =>
        clear G0 G1 HB HR
        obtain ⟨m, hm, rfl, rfl, hbw, hrow, g0, g1⟩ := hrel
        have G0 := hide g0
        have G1 := hide g1
        have HB := hide hbw
        have HR := hide hrow
        have hs1 := lt_of_heap g1
        clear g0 g1 hbw hrow
        by_cases hlm : m < 7
        · obtain ⟨q, hq⟩ : ∃ q : Nat, q = 7 * j + m := ⟨_, rfl⟩
          have hq49 : q < 49 := by omega
          have RA : Hid (∀ w' : World, Below wr.heap.size wr w' → w'.rangeAt w.heap.size (q * 3) (ev (enAt a q)).toList) := fun w' hb' => range_en a ((hb'.block _ (by omega)).trans (unhide G0)) q (by rw [unhide HA]; omega)
          have RB : Hid (∀ w' : World, Below wr.heap.size wr w' → w'.rangeAt (w.heap.size + 1) (q * 3) (ev (enAt b q)).toList) := fun w' hb' => range_en b ((hb'.block _ (by omega)).trans (unhide G1)) q (by rw [unhide HBL]; omega)
          have OT : Hid (otB a b j (m + 1) = (otB a b j m || !decide (enAt a q = enAt b q))) := by rw [hq]; exact rfl
          have EQ : Hid (∀ w, _) := fun w => equal_en (enAt a q) (enAt b q) w
          have w1 : IntKind.i64.wrap (7 * (j : Int)) = 7 * (j : Int) := by simp [IntKind.wrap, IntKind.signed, IntKind.bits]; omega
          have w2 : IntKind.i64.wrap (7 * (j : Int) + (m : Int)) = (q : Int) := by simp [IntKind.wrap, IntKind.signed, IntKind.bits]; omega
          have q0 : (0 : Int) ≤ (q : Int) := by omega
          have q1 : (q : Int) < 49 := by omega
          clear hq
          cases ho : otB a b j m with
          | true =>
            rw [ho, Bool.true_or] at OT
            clear ho EQ
            go_wp2_with fail
            refine wp_region_noPanic ?_
            refine wp_region_held_drew (S := fun w' => Below wr.heap.size wr w') (by kernel_rfl) ((Below.refl _ _).drew) (fun hHeld => ?_)
            refine take_at 0 17 (v := ?_) rfl rfl (by kernel_rfl) (by kernel_rfl) (by kernel_rfl) (Or.inl ⟨by rfl, ?_⟩) hHeld ?_
            rotate_left
            · intro w hSw; go_simp; with_reducible rfl
            simp only [Act.put, List.setIfInBounds_toArray, List.set_cons_zero, List.set_cons_succ]
            refine take_at 1 18 (v := ?_) rfl rfl (by kernel_rfl) (by kernel_rfl) (by kernel_rfl) (Or.inl ⟨by rfl, ?_⟩) hHeld ?_
            rotate_left
            · intro w hSw; go_simp; with_reducible rfl
            simp only [Act.put, List.setIfInBounds_toArray, List.set_cons_zero, List.set_cons_succ]
            refine take_at 2 19 rfl rfl (by kernel_rfl) (by kernel_rfl) (by kernel_rfl) (Or.inr ⟨by rfl, rfl⟩) hHeld ?_
            simp only [Act.put, List.setIfInBounds_toArray, List.set_cons_zero, List.set_cons_succ]
            refine take_at 3 20 rfl rfl (by kernel_rfl) (by kernel_rfl) (by kernel_rfl) (Or.inr ⟨by rfl, rfl⟩) hHeld ?_
            simp only [Act.put, List.setIfInBounds_toArray, List.set_cons_zero, List.set_cons_succ]
            refine take_at 4 21 rfl rfl (by kernel_rfl) (by kernel_rfl) (by kernel_rfl) (Or.inr ⟨by rfl, rfl⟩) hHeld ?_
            simp only [Act.put, List.setIfInBounds_toArray, List.set_cons_zero, List.set_cons_succ]
            refine take_at 5 22 rfl rfl (by kernel_rfl) (by kernel_rfl) (by kernel_rfl) (Or.inr ⟨by rfl, rfl⟩) hHeld ?_
            simp only [Act.put, List.setIfInBounds_toArray, List.set_cons_zero, List.set_cons_succ]
            refine take_at 6 23 rfl rfl (by kernel_rfl) (by kernel_rfl) (by kernel_rfl) (Or.inr ⟨by rfl, rfl⟩) hHeld ?_
            simp only [Act.put, List.setIfInBounds_toArray, List.set_cons_zero, List.set_cons_succ]
            refine take_at 7 24 rfl rfl (by kernel_rfl) (by kernel_rfl) (by kernel_rfl) (Or.inr ⟨by rfl, rfl⟩) hHeld ?_
            simp only [Act.put, List.setIfInBounds_toArray, List.set_cons_zero, List.set_cons_succ]
            refine take_at 8 25 rfl rfl (by kernel_rfl) (by kernel_rfl) (by kernel_rfl) (Or.inr ⟨by rfl, rfl⟩) hHeld ?_
            simp only [Act.put, List.setIfInBounds_toArray, List.set_cons_zero, List.set_cons_succ]
            refine take_at 9 26 rfl rfl (by kernel_rfl) (by kernel_rfl) (by kernel_rfl) (Or.inr ⟨by rfl, rfl⟩) hHeld ?_
            simp only [Act.put, List.setIfInBounds_toArray, List.set_cons_zero, List.set_cons_succ]
            refine take_at 10 27 rfl rfl (by kernel_rfl) (by kernel_rfl) (by kernel_rfl) (Or.inr ⟨by rfl, rfl⟩) hHeld ?_
            simp only [Act.put, List.setIfInBounds_toArray, List.set_cons_zero, List.set_cons_succ]
            refine take_at 11 28 rfl rfl (by kernel_rfl) (by kernel_rfl) (by kernel_rfl) (Or.inr ⟨by rfl, rfl⟩) hHeld ?_
            simp only [Act.put, List.setIfInBounds_toArray, List.set_cons_zero, List.set_cons_succ]
            refine take_at 12 29 rfl rfl (by kernel_rfl) (by kernel_rfl) (by kernel_rfl) (Or.inr ⟨by rfl, rfl⟩) hHeld ?_
            simp only [Act.put, List.setIfInBounds_toArray, List.set_cons_zero, List.set_cons_succ]
            refine take_at 13 30 rfl rfl (by kernel_rfl) (by kernel_rfl) (by kernel_rfl) (Or.inr ⟨by rfl, rfl⟩) hHeld ?_
            simp only [Act.put, List.setIfInBounds_toArray, List.set_cons_zero, List.set_cons_succ]
            refine take_at 14 31 rfl rfl (by kernel_rfl) (by kernel_rfl) (by kernel_rfl) (Or.inr ⟨by rfl, rfl⟩) hHeld ?_
            simp only [Act.put, List.setIfInBounds_toArray, List.set_cons_zero, List.set_cons_succ]
            refine take_at 15 32 (v := ?_) rfl rfl (by kernel_rfl) (by kernel_rfl) (by kernel_rfl) (Or.inl ⟨by rfl, ?_⟩) hHeld ?_
            rotate_left
            · intro w hSw; go_simp; with_reducible rfl
            simp only [Act.put, List.setIfInBounds_toArray, List.set_cons_zero, List.set_cons_succ]
            refine take_at 16 7 (v := ?_) rfl rfl (by kernel_rfl) (by kernel_rfl) (by kernel_rfl) (Or.inl ⟨by rfl, ?_⟩) hHeld ?_
            rotate_left
            · intro w hSw; go_simp; with_reducible rfl
            simp only [Act.put, List.setIfInBounds_toArray, List.set_cons_zero, List.set_cons_succ]
            refine wpAnyH_done (by kernel_rfl) ?_ _
            refine NoPanic.normal ?_
            have hs5 := hHeld.size
            have K0 := hide ((hHeld.block _ (by omega)).trans (unhide G0))
            have K1 := hide ((hHeld.block _ (by omega)).trans (unhide G1))
            have HB5 := hide ((unhide HB).trans (hHeld.mono (by omega)))
            have HR5 := hide ((unhide HR).below hHeld)
            clear hHeld G0 G1 HB HR RA RB
            go_wp2_with fail
            go_roundw
            case rel => exact ⟨m + 1, by omega, by rw [unhide OT], by go_num, unhide HB5, unhide HR5, unhide K0, unhide K1⟩
            case measure => simp [intOf]; omega
          | false =>
            rw [ho, Bool.false_or] at OT
            clear ho
            go_wp2_with fail
            refine wp_region_noPanic ?_
            refine wp_region_held_drew (S := fun w' => Below wr.heap.size wr w') (by kernel_rfl) ((Below.refl _ _).drew) (fun hHeld => ?_)
            refine take_at 0 17 (v := ?_) rfl rfl (by kernel_rfl) (by kernel_rfl) (by kernel_rfl) (Or.inl ⟨by rfl, ?_⟩) hHeld ?_
            rotate_left
            · intro w hSw; go_simp; with_reducible rfl
            simp only [Act.put, List.setIfInBounds_toArray, List.set_cons_zero, List.set_cons_succ]
            refine take_at 1 18 (v := ?_) rfl rfl (by kernel_rfl) (by kernel_rfl) (by kernel_rfl) (Or.inl ⟨by rfl, ?_⟩) hHeld ?_
            rotate_left
            · intro w hSw; go_simp; with_reducible rfl
            simp only [Act.put, List.setIfInBounds_toArray, List.set_cons_zero, List.set_cons_succ]
            refine take_at 2 19 (v := ?_) rfl rfl (by kernel_rfl) (by kernel_rfl) (by kernel_rfl) (Or.inl ⟨by rfl, ?_⟩) hHeld ?_
            rotate_left
            · intro w hSw; go_simp; with_reducible rfl
            simp only [Act.put, List.setIfInBounds_toArray, List.set_cons_zero, List.set_cons_succ]
            refine take_at 3 20 (v := ?_) rfl rfl (by kernel_rfl) (by kernel_rfl) (by kernel_rfl) (Or.inl ⟨by rfl, ?_⟩) hHeld ?_
            rotate_left
            · intro w hSw; go_simp; with_reducible rfl
            simp only [Act.put, List.setIfInBounds_toArray, List.set_cons_zero, List.set_cons_succ]
            refine take_at 4 21 (v := ?_) rfl rfl (by kernel_rfl) (by kernel_rfl) (by kernel_rfl) (Or.inl ⟨by rfl, ?_⟩) hHeld ?_
            rotate_left
            · intro w hSw; go_simp; with_reducible rfl
            simp only [Act.put, List.setIfInBounds_toArray, List.set_cons_zero, List.set_cons_succ]
            refine take_at 5 22 (v := ?_) rfl rfl (by kernel_rfl) (by kernel_rfl) (by kernel_rfl) (Or.inl ⟨by rfl, ?_⟩) hHeld ?_
            rotate_left
            · intro w hSw; go_simp; with_reducible rfl
            simp only [Act.put, List.setIfInBounds_toArray, List.set_cons_zero, List.set_cons_succ]
            refine take_at 6 23 (v := ?_) rfl rfl (by kernel_rfl) (by kernel_rfl) (by kernel_rfl) (Or.inl ⟨by rfl, ?_⟩) hHeld ?_
            rotate_left
            · intro w hSw; go_simp; with_reducible rfl
            simp only [Act.put, List.setIfInBounds_toArray, List.set_cons_zero, List.set_cons_succ]
            refine take_at 7 24 rfl rfl (by kernel_rfl) (by kernel_rfl) (by kernel_rfl) (yieldsIf_load_en (by rfl) _ rfl w.heap.size (q * 3) rfl (enAt a q) (fun w h => unhide RA w h)) hHeld ?_
            simp only [Act.put, List.setIfInBounds_toArray, List.set_cons_zero, List.set_cons_succ]
            refine take_at 8 25 (v := ?_) rfl rfl (by kernel_rfl) (by kernel_rfl) (by kernel_rfl) (Or.inl ⟨by rfl, ?_⟩) hHeld ?_
            rotate_left
            · intro w hSw; go_simp; with_reducible rfl
            simp only [Act.put, List.setIfInBounds_toArray, List.set_cons_zero, List.set_cons_succ]
            refine take_at 9 26 (v := ?_) rfl rfl (by kernel_rfl) (by kernel_rfl) (by kernel_rfl) (Or.inl ⟨by rfl, ?_⟩) hHeld ?_
            rotate_left
            · intro w hSw; go_simp; with_reducible rfl
            simp only [Act.put, List.setIfInBounds_toArray, List.set_cons_zero, List.set_cons_succ]
            refine take_at 10 27 (v := ?_) rfl rfl (by kernel_rfl) (by kernel_rfl) (by kernel_rfl) (Or.inl ⟨by rfl, ?_⟩) hHeld ?_
            rotate_left
            · intro w hSw; go_simp; with_reducible rfl
            simp only [Act.put, List.setIfInBounds_toArray, List.set_cons_zero, List.set_cons_succ]
            refine take_at 11 28 (v := ?_) rfl rfl (by kernel_rfl) (by kernel_rfl) (by kernel_rfl) (Or.inl ⟨by rfl, ?_⟩) hHeld ?_
            rotate_left
            · intro w hSw; go_simp; with_reducible rfl
            simp only [Act.put, List.setIfInBounds_toArray, List.set_cons_zero, List.set_cons_succ]
            refine take_at 12 29 (v := ?_) rfl rfl (by kernel_rfl) (by kernel_rfl) (by kernel_rfl) (Or.inl ⟨by rfl, ?_⟩) hHeld ?_
            rotate_left
            · intro w hSw; go_simp; with_reducible rfl
            simp only [Act.put, List.setIfInBounds_toArray, List.set_cons_zero, List.set_cons_succ]
            refine take_at 13 30 rfl rfl (by kernel_rfl) (by kernel_rfl) (by kernel_rfl) (yieldsIf_load_en (by rfl) _ rfl (w.heap.size + 1) (q * 3) rfl (enAt b q) (fun w h => unhide RB w h)) hHeld ?_
            simp only [Act.put, List.setIfInBounds_toArray, List.set_cons_zero, List.set_cons_succ]
            refine take_at 14 31 rfl rfl (by kernel_rfl) (by kernel_rfl) (by kernel_rfl) (yieldsIf_neqA (by rfl) 23 23 _ _ rfl (ev (enAt a q)) (ev (enAt b q)) rfl rfl en_guard _ (unhide EQ)) hHeld ?_
            simp only [Act.put, List.setIfInBounds_toArray, List.set_cons_zero, List.set_cons_succ]
            refine take_at 15 32 (v := ?_) rfl rfl (by kernel_rfl) (by kernel_rfl) (by kernel_rfl) (Or.inl ⟨by rfl, ?_⟩) hHeld ?_
            rotate_left
            · intro w hSw; go_simp; with_reducible rfl
            simp only [Act.put, List.setIfInBounds_toArray, List.set_cons_zero, List.set_cons_succ]
            refine take_at 16 7 (v := ?_) rfl rfl (by kernel_rfl) (by kernel_rfl) (by kernel_rfl) (Or.inl ⟨by rfl, ?_⟩) hHeld ?_
            rotate_left
            · intro w hSw; go_simp; with_reducible rfl
            simp only [Act.put, List.setIfInBounds_toArray, List.set_cons_zero, List.set_cons_succ]
            refine wpAnyH_done (by kernel_rfl) ?_ _
            refine NoPanic.normal ?_
            have hs5 := hHeld.size
            have K0 := hide ((hHeld.block _ (by omega)).trans (unhide G0))
            have K1 := hide ((hHeld.block _ (by omega)).trans (unhide G1))
            have HB5 := hide ((unhide HB).trans (hHeld.mono (by omega)))
            have HR5 := hide ((unhide HR).below hHeld)
            clear hHeld G0 G1 HB HR RA RB
            go_wp2_with fail
            go_roundw
            case rel => exact ⟨m + 1, by omega, by rw [unhide OT], by go_num, unhide HB5, unhide HR5, unhide K0, unhide K1⟩
            case measure => simp [intOf]; omega
        · obtain rfl : m = 7 := by omega
          have OT := hide (unhide HD j)
          have HS1 := hide (unhide HS j)
          have hl5 : (dfTo a b j).length < 1000 := by have := unhide HN j; omega
          cases hd : dfB a b j with
          | false =>
            have e1 : dfTo a b (j + 1) = dfTo a b j := by rw [unhide HS1, hd]; rfl
            have E1 := hide e1
            have ho : otB a b j 7 = false := by rw [unhide OT, hd]
            rw [ho]
            clear e1 HS1 hd OT ho HS HD HN
            go_wp2_with fail
            go_roundw
            case rel => exact ⟨j + 1, by omega, by go_num, unhide HB, by rw [unhide E1]; exact unhide HR, unhide G0, unhide G1⟩
            case measure => simp [intOf]; omega
          | true =>
            have e1 : dfTo a b (j + 1) = dfTo a b j ++ [(j : Int)] := by rw [unhide HS1, hd]; rfl
            have E1 := hide e1
            have ho : otB a b j 7 = true := by rw [unhide OT, hd]
            rw [ho]
            clear e1 HS1 hd OT ho HS HD HN
            go_wp2_with (at_builtin; refine push_int _ (j : Int) rfl (.tmp 34) (.tmp 36) rfl (w.heap.size + 1 + 1) u5 (dfTo a b j) rfl (unhide HR) rfl hl5 (by omega) ?_; intro v6 w6 hrow6 hgrow6; have HR6 := hide hrow6; have HG6 := hide hgrow6; clear hrow6 hgrow6)
            go_roundw
            case rel =>
              have hg := unhide HG6
              have hlt5 := (unhide HR).lt
              refine ⟨j + 1, by omega, by go_num, below_growX ((unhide HB).alloc (by omega) _) (by simp; omega) hg (fun k e => by have := (hlt5 k e).1; omega), by rw [unhide E1]; exact unhide HR6, ?_, ?_⟩
              · rw [hg.block _ (by simp; omega) (fun e => by have := (hlt5 _ e.symm).1; omega), Below.heap_alloc _ _ _ (by omega)]; exact unhide G0
              · rw [hg.block _ (by simp; omega) (fun e => by have := (hlt5 _ e.symm).1; omega), Below.heap_alloc _ _ _ (by omega)]; exact unhide G1
            case measure => simp [intOf]; omega
    · obtain rfl : j = 7 := by omega
      have HB := hide hbw
      have HR := hide hrow
      clear hbw hrow g0 g1
      go_wp2_with fail
      go_ret
      exact ⟨_, rfl, unhide HB, (unhide HR).mono (by omega)⟩

end Go.Proofs.Ytnjicfnigfkppaa
