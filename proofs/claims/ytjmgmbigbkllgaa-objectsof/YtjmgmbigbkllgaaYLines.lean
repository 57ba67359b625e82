
/-
  The document's rows of lines: lines of a table, and whether a number is among some.
-/
import Derived.Test.YtjmgmbigbkllgaaORow
import Derived.Test.YtjmgmbigbkllgaaOTake
namespace Go.Proofs.Ytjmgmbigbkllgaa
open Go.ChangeShapes Go.WideShapes Go.ChangeAt Go.RowKit Go.Joins
set_option maxRecDepth 10000
set_option linter.unusedVariables false
set_option linter.unusedSimpArgs false

theorem tab_cells {w : World} {g : Nat} {T : TypeId} {fr : Nat × Nat} {f : Nat → En} (h : w.heap[g]? = some (.cells (tabV f) T fr)) (j : Nat) (hj : j < 49) :
    w.cell? ⟨g, j * 3, none⟩ = some (.int .i64 (f j).k) ∧ w.cell? ⟨g, j * 3 + 2, none⟩ = some (.int .i64 (f j).l) := by
  refine ⟨?_, ?_⟩
  · rw [cell_of_block h, tabV_cell _ _ (by omega), fl3_0]
  · rw [cell_of_block h, tabV_cell _ _ (by omega), fl3_2]
def Lined (f : Nat → En) (w : World) (e : Ending) (w' : World) : Prop := ∃ v, e = .returned v ∧ Keeps (fun _ => False) w w' ∧ RowX w.heap.size v (linesL f) w'
set_option maxHeartbeats 2000000 in
theorem rlines_any (f : Nat → En) (w : World) : Calls Try.prog 39 #[.agg (tabV f)] w (Lined f w) := by
  have R0 : Hid (RowSt w (w.alloc (.cells (tabV f) 24)) (.slice none 0 0) (linesTo f 0) [(w.heap.size, .cells (tabV f) 24)]) :=
    ⟨(Keeps.refl _ _).alloc _, RowX.nil _ _, fun p hp => by rw [List.mem_singleton] at hp; subst hp; exact ⟨heap_new _ _, by simp [Value.ownBlock], Nat.le_refl _⟩⟩
  have CK : Hid (∀ (w' : World) (g j : Nat), w'.heap[g]? = some (.cells (tabV f) 24 (0, 0)) → j < 49 → w'.cell? ⟨g, j * 3, none⟩ = some (.int .i64 (f j).k) ∧ w'.cell? ⟨g, j * 3 + 2, none⟩ = some (.int .i64 (f j).l)) := fun w' g j h hj => tab_cells h j hj
  obtain ⟨TV, hTV⟩ : ∃ TV, TV = tabV f := ⟨_, rfl⟩
  rw [← hTV] at R0 CK ⊢
  clear hTV
  have hst : ∀ (U : World), U = U := fun _ => rfl
  clear hst
  go_enter Try.func39, Try.ntmps39
  go_upto_region 1 with fail
  obtain ⟨g, hg⟩ : ∃ g, g = w.heap.size := ⟨_, rfl⟩
  rw [← hg] at R0 ⊢
  generalize w.alloc (.cells TV 24) = w1 at *
  clear hg
  go_wp2_with fail
  go_loopw [3, 4] (fun v q wr => ∃ j : Nat, j ≤ 49 ∧ q = .int .i64 j ∧ RowSt w wr v (linesTo f j) [(g, .cells TV 24)]) (fun _ q _ => 49 - (intOf q).toNat)
  case atStart => exact ⟨0, by omega, rfl, unhide R0⟩
  case round =>
    clear R0
    obtain ⟨j, hj, rfl, hr⟩ := hrel
    have RS := hide hr
    clear hr
    by_cases hlt : j < 49
    · have hjn : (j : Int) < 49 := by omega
      have hI := hide (linesTo_in f j)
      have hO := hide (linesTo_out f j)
      have hlen : (linesTo f j).length < 1000 := by have := linesTo_len f j; omega
      obtain ⟨c0, c2⟩ := unhide CK wr g j ((unhide RS).at g (.cells TV 24) (by simp)) hlt
      generalize (f j).k = k at *
      generalize (f j).l = l at *
      by_cases hk : k = 0
      · have hE := hide (unhide hO hk)
        subst hk
        clear hI hO c2
        rw [← unhide hE] at RS
        clear hE
        go_wp2_with fail
        go_roundw
        case rel => exact ⟨j + 1, by omega, by go_num, unhide RS⟩
        case measure => simp [intOf]; omega
      · have hE := hide (unhide hI hk)
        have hk1 : (k != 0) = true := by simpa using hk
        clear hI hO hk
        go_wp2_with (at_builtin; refine push_st l rfl (.tmp 14) (.tmp 19) rfl rfl (unhide RS) rfl hlen ?_; intro v1' w8 st1; have RS1 := hide st1; clear st1)
        rw [← unhide hE] at RS1
        go_roundw
        case rel => exact ⟨j + 1, by omega, by go_num, unhide RS1⟩
        case measure => simp [intOf]; omega
    · have e49 : j = 49 := by omega
      have hge : ¬ ((j : Int) < 49) := by omega
      subst e49
      go_wp2_with fail
      go_ret
      exact ⟨_, rfl, (unhide RS).kp, (unhide RS).2.1⟩

theorem contains_take (l : List Int) (z : Int) (j : Nat) (hj : j < l.length) (h : (l.take j).contains z = false) : (l.take (j + 1)).contains z = (l.getD j 0 == z) := by
  rw [take_contains l j hj, h, Bool.false_or]
theorem contains_of (l : List Int) (z : Int) (j : Nat) (hj : j < l.length) (h : l.getD j 0 = z) : l.contains z = true := by
  rw [List.contains_iff_mem]
  rw [List.getD_eq_getElem?_getD, List.getElem?_eq_getElem hj] at h
  exact h ▸ List.getElem_mem hj
def hasL (l : List Int) (z : Int) : Bool := l.contains z
theorem hasL_cut (l : List Int) (z : Int) (j : Nat) (hj : j < l.length) (h : hasL (l.take j) z = false) : hasL (l.take (j + 1)) z = (l.getD j 0 == z) := contains_take l z j hj h
theorem hasL_of (l : List Int) (z : Int) (j : Nat) (hj : j < l.length) (h : l.getD j 0 = z) : hasL l z = true := contains_of l z j hj h
end Go.Proofs.Ytjmgmbigbkllgaa
