
/-
  has, isOwn: whether a line is among a table's; nothing turns.
-/
import Derived.Test.YtjmgmbigbkllgaaOTab
namespace Go.Proofs.Ytjmgmbigbkllgaa
open Go.ChangeShapes Go.WideShapes Go.ChangeAt Go.RowKit Go.Joins
set_option maxRecDepth 10000
set_option linter.unusedVariables false
set_option linter.unusedSimpArgs false

set_option maxHeartbeats 4000000 in
theorem has_any (t : Nat → En) (z : Int) (w : World) :
    Calls Try.prog 56 #[.agg (tabV t), .int .i64 z] w fun e w' => e = .returned (.bool (hasB t z)) ∧ Below w.heap.size w w' := by
  have s147 := s147_tab t
  have HX : Hid (∀ (W : World) (j : Nat), j < 49 → Sem.run Try.prog (Instr.index 59 (.agg (tabV t)) (.int .i64 (j : Int))) W = .ok (.agg (ev (t j))) W) := fun W j hj => by
    rw [← rowE_at 49 t j hj]; exact run_index_en _ 49 Try.underlying59 W _ (rowE_len _ _) .i64 j hj
  have KN := hide (heap_new w (.cells (tabV t) 59))
  have KB := hide ((Below.refl w.heap.size w).alloc (Nat.le_refl _) (.cells (tabV t) 59))
  go_enter Try.func56, Try.ntmps56
  go_wp2_with (with_reducible refine wpList_load_row (by with_unfolding_all rfl) 59 _ (by with_unfolding_all rfl) w.heap.size (by with_unfolding_all rfl) _ _ _ _ (unhide KN) Try.underlying59 (by with_unfolding_all rfl) s147 ?_)
  generalize hw1 : w.alloc _ = w1 at *
  clear hw1 KN
  go_loopw [8] (fun c wr => ∃ j : Nat, j ≤ 49 ∧ c = .int .i64 j ∧ Below w.heap.size w wr ∧ hasTo t z j = false) (fun c _ => 49 - (intOf c).toNat)
  case atStart => exact ⟨0, by omega, rfl, unhide KB, rfl⟩
  case round =>
    clear KB
    obtain ⟨j, hj, rfl, hb, hno⟩ := hrel
    have HB := hide hb
    have HN := hide hno
    have hsz := hb.size
    clear hb hno
    by_cases hlt : j < 49
    · have hix := fun W => unhide HX W j hlt
      obtain ⟨k, v, l, hx⟩ : ∃ k v l, t j = ⟨k, v, l⟩ := ⟨_, _, _, rfl⟩
      rw [hx] at hix
      have hi2 : ∀ W : World, Sem.run Try.prog (Instr.index 59 (.agg (tabV t)) (.int .i64 (j : Int))) W = .ok (.agg #[.int .i64 k, .int .i64 v, .int .i64 l]) W := hix
      have HA : Hid (atB ⟨k, v, l⟩ z = true → hasB t z = true) := fun h => hasB_of hlt (by rw [hx]; exact h)
      have HT : Hid (atB ⟨k, v, l⟩ z = false → hasTo t z (j + 1) = false) := fun h => by rw [hasTo_next, unhide HN, hx, h]; rfl
      clear hix hx HX
      by_cases h1 : k = 0
      · have e1 : (k != 0) = false := by simpa using h1
        have HT1 := hide (unhide HT (atB_no fun q => q.1 h1))
        clear HA HT h1
        go_wp2_with fail
        go_roundw
        case rel => exact ⟨j + 1, by omega, by go_num, (unhide HB).alloc hsz _, unhide HT1⟩
        case measure => simp [intOf]; omega
      · have e1 : (k != 0) = true := by simpa using h1
        by_cases h2 : l = z
        · have HA1 := hide (unhide HA ((atB_iff _ _).2 ⟨h1, h2⟩))
          have e2 : (l == z) = true := by simpa using h2
          clear HA HT h1 h2
          go_wp2_with fail
          go_ret
          exact ⟨by rw [unhide HA1]; rfl, (unhide HB).alloc hsz _⟩
        · have e2 : (l == z) = false := by simpa using h2
          have HT1 := hide (unhide HT (atB_no fun q => h2 q.2))
          clear HA HT h1 h2
          go_wp2_with fail
          go_roundw
          case rel => exact ⟨j + 1, by omega, by go_num, (unhide HB).alloc hsz _, unhide HT1⟩
          case measure => simp [intOf]; omega
    · obtain rfl : j = 49 := by omega
      go_wp2_with fail
      go_ret
      exact ⟨by rw [show hasB t z = false from unhide HN]; rfl, unhide HB⟩

theorem isOwn_any {m : Nat} {S : Sto} {w : World} {b : Nat} (h : SRep m S w b) (z : Int) :
    Calls Try.prog 43 #[.pointer (some ⟨b, 0, none⟩), .int .i64 z] w fun e w' => e = .returned (.bool (S.own z)) ∧ Below w.heap.size w w' := by
  have C1 := hide (has_any S.b z)
  have C2 := hide (has_any S.k z)
  have RB := hide h.rb
  have RK : Hid (∀ w' : World, Below w.heap.size w w' → w'.rangeAt b 1329 (tabV S.k).toList) := fun w' hb => (h.below hb).rk
  have EO : Hid (S.own z = (!hasB S.b z && !hasB S.k z)) := rfl
  obtain ⟨x, hx⟩ : ∃ x, x = hasB S.b z := ⟨_, rfl⟩
  obtain ⟨y, hy⟩ : ∃ y, y = hasB S.k z := ⟨_, rfl⟩
  rw [← hx] at C1 EO
  rw [← hy] at C2 EO
  clear h hx hy
  cases x with
  | true =>
    go_enter Try.func43, Try.ntmps43
    go_wp2_with (with_reducible refine wpList_load_tab (by with_unfolding_all rfl) _ (by with_unfolding_all rfl) b 1174 (by with_unfolding_all rfl) S.b (unhide RB) ?_)
    refine (unhide C1 _).mono ?_
    rintro e w1 ⟨rfl, hb1⟩
    have H1 := hide hb1
    clear hb1
    go_wp2_with fail
    go_ret
    exact ⟨by rw [unhide EO]; rfl, unhide H1⟩
  | false =>
    go_enter Try.func43, Try.ntmps43
    go_wp2_with (with_reducible refine wpList_load_tab (by with_unfolding_all rfl) _ (by with_unfolding_all rfl) b 1174 (by with_unfolding_all rfl) S.b (unhide RB) ?_)
    refine (unhide C1 _).mono ?_
    rintro e w1 ⟨rfl, hb1⟩
    have H1 := hide hb1
    have RK1 := hide (unhide RK w1 hb1)
    clear hb1
    go_wp2_with (with_reducible refine wpList_load_tab (by with_unfolding_all rfl) _ (by with_unfolding_all rfl) b 1329 (by with_unfolding_all rfl) S.k (unhide RK1) ?_)
    refine (unhide C2 _).mono ?_
    rintro e w2 ⟨rfl, hb2⟩
    have H2 := hide (Below.trans (unhide H1) (hb2.mono (unhide H1).size))
    clear hb2
    go_wp2_with fail
    go_ret
    exact ⟨by rw [unhide EO]; rfl, unhide H2⟩

end Go.Proofs.Ytjmgmbigbkllgaa
