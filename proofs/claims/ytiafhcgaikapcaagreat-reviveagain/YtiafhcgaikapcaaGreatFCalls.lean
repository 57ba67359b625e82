
/-
  Frames in the program's memory: one block of 1026 cells; what each of their calls does.
-/
import Derived.Test.YtiafhcgaikapcaaGreatProg
import Derived.Test.YtiafhcgaikapcaaGreatChecked
import Derived.Test.YtiafhcgaikapcaaGreatNRep
import Derived.Test.YtiafhcgaikapcaaGreatFMath
import Derived.Deep.QuietTactic
import Derived.BigQuiet
import Derived.BigRegion
import Derived.Deep.Cut
namespace Go.Proofs.YtiafhcgaikapcaaGreat
open Go.ChangeShapes Go.WideShapes Go.ChangeAt Go.RowKit Go.Joins
set_option maxRecDepth 10000
set_option linter.unusedVariables false
set_option linter.unusedSimpArgs false

def frF (A : Fr) (i : Nat) : Value := if i = 0 then .int .i64 (A.lo : Int) else if i = 1 then .int .i64 (A.hi : Int) else .int .i64 (A.s (i - 2))
def frV (A : Fr) : Array Value := tab 1026 (frF A)
theorem frV_size (A : Fr) : (frV A).size = 1026 := tab_size _ _
theorem frF_one (A : Fr) (i : Nat) : (frF A i).oneCell' = true := by
  unfold frF
  split
  · rfl
  · split <;> rfl
theorem frV_one (A : Fr) : (frV A).all (·.oneCell') = true := by
  refine Array.all_eq_true_iff_forall_mem.2 fun v hv => ?_
  obtain ⟨i, hi, rfl⟩ := Array.mem_iff_getElem.1 hv
  have : (frV A)[i]? = some (frF A i) := tab_get 1026 (frF A) i (by rw [frV_size] at hi; exact hi)
  rw [show (frV A)[i] = frF A i from by rw [Array.getElem?_eq_getElem hi] at this; simpa using this]
  exact frF_one A i
def FRep (w : World) (b : Nat) (A : Fr) : Prop := w.heap[b]? = some (.cells (frV A) 144 (0, 0))
theorem FRep.lt {w : World} {b : Nat} {A : Fr} (h : FRep w b A) : b < w.heap.size := by
  rcases Nat.lt_or_ge b w.heap.size with h' | h'
  · exact h'
  · unfold FRep at h; simp [Array.getElem?_eq_none h'] at h
theorem FRep.c0 {w : World} {b : Nat} {A : Fr} (h : FRep w b A) : w.cell? ⟨b, 0, none⟩ = some (.int .i64 (A.lo : Int)) := by rw [cell_of_block h]; exact tab_get _ _ _ (by decide)
theorem FRep.c1 {w : World} {b : Nat} {A : Fr} (h : FRep w b A) : w.cell? ⟨b, 1, none⟩ = some (.int .i64 (A.hi : Int)) := by rw [cell_of_block h]; exact tab_get _ _ _ (by decide)
theorem FRep.cs {w : World} {b : Nat} {A : Fr} (h : FRep w b A) (i : Nat) (hi : i < 1024) : w.cell? ⟨b, 2 + i, none⟩ = some (.int .i64 (A.s i)) := by
  rw [cell_of_block h]
  refine (tab_get 1026 (frF A) (2 + i) (by omega)).trans ?_
  unfold frF
  rw [if_neg (by omega), if_neg (by omega), show 2 + i - 2 = i by omega]
theorem FRep.fr {w : World} {b : Nat} {A : Fr} (h : FRep w b A) (i : Nat) : w.frozen? ⟨b, i, none⟩ = false := unfrozen_of_block h i
theorem FRep.keeps {F : Nat → Prop} {w w' : World} {b : Nat} {A : Fr} (h : FRep w b A) (hk : Keeps F w w') (hb : ¬ F b) : FRep w' b A := by
  unfold FRep; rw [hk.block b h.lt hb]; exact h
theorem FRep.put {w : World} {b : Nat} {A : Fr} (h : FRep w b A) (i : Nat) (v : Int) : FRep (w.setCell ⟨b, 2 + i, none⟩ (.int .i64 v)) b (A.put i v) := by
  have h1 : w.heap[b]? = some (.cells (tab 1026 (frF A)) 144 (0, 0)) := h
  have h2 : tab 1026 (frF (A.put i v)) = (tab 1026 (frF A)).setIfInBounds (2 + i) (.int .i64 v) := by
    rw [tab_set]
    refine tab_ext fun j _ => ?_
    unfold frF
    by_cases hj : j = 2 + i
    · subst hj; rw [upd_same, if_neg (by omega), if_neg (by omega), show 2 + i - 2 = i by omega]; show Value.int _ (upd A.s i v i) = _; rw [upd_same]
    · rw [upd_other _ _ _ _ hj]
      by_cases h0 : j = 0
      · rw [if_pos h0, if_pos h0]; rfl
      · by_cases h1 : j = 1
        · rw [if_neg h0, if_neg h0, if_pos h1, if_pos h1]; rfl
        · rw [if_neg h0, if_neg h0, if_neg h1, if_neg h1]; show Value.int _ (upd A.s i v (j - 2)) = _; rw [upd_other _ _ _ _ (by omega)]
  show (w.setCell ⟨b, 2 + i, none⟩ (.int .i64 v)).heap[b]? = some (.cells (tab 1026 (frF (A.put i v))) 144 (0, 0))
  rw [h2, block_setCell h1]

theorem fret_int {k : IntKind} {a b : Int} (h : a = b) : Ending.returned (.int k a) = .returned (.int k b) := by rw [h]

theorem state_any {w : World} {b : Nat} {A : Fr} (h : FRep w b A) (hok : A.ok) (z : Int) :
    Calls Tryz.prog 136 #[.pointer (some ⟨b, 0, none⟩), .int .i64 z] w fun e w' => e = .returned (.int .i64 (A.st z)) ∧ w' = w := by
  have c0 := h.c0
  have c1 := h.c1
  have h1024 := hok.2.1
  by_cases h1 : z < (A.lo : Int)
  · have e : A.st z = -1 := if_neg fun q => by have := q.1; omega
    rw [e]
    clear h hok e
    go_enter Tryz.func136, Tryz.ntmps136
    go_wp2
    go_ret
    exact ⟨rfl, rfl⟩
  · by_cases h2 : (A.hi : Int) ≤ z
    · have e : A.st z = -1 := if_neg fun q => by have := q.2; omega
      rw [e]
      clear h hok e
      go_enter Tryz.func136, Tryz.ntmps136
      go_wp2
      go_ret
      exact ⟨rfl, rfl⟩
    · have e : A.st z = A.s z.toNat := if_pos ⟨by omega, by omega⟩
      rw [e]
      obtain ⟨k, rfl⟩ : ∃ k : Nat, z = (k : Int) := ⟨z.toNat, by omega⟩
      have cs := h.cs k (by omega)
      have hk1 : (0 : Int) ≤ (k : Int) := by omega
      have hk2 : (k : Int) < 1024 := by omega
      rw [show ((k : Int)).toNat = k by omega]
      clear h hok e
      go_enter Tryz.func136, Tryz.ntmps136
      go_wp2
      go_ret
      exact ⟨rfl, rfl⟩

/-- Behind a call: it returned v, the frames at b are A', nothing else has turned. -/
def FWent (w : World) (b : Nat) (A' : Fr) (v : Value) (e : Ending) (w' : World) : Prop := e = .returned v ∧ FRep w' b A' ∧ Keeps (· = b) w w'

theorem turn_any {w : World} {b : Nat} {A : Fr} (h : FRep w b A) (hok : A.ok) (z was is : Int) (hwas : was ≠ -1) :
    Calls Tryz.prog 146 #[.pointer (some ⟨b, 0, none⟩), .int .i64 z, .int .i64 was, .int .i64 is] w (FWent w b (A.turnA z was is) (.int .i64 (A.turnE z was))) := by
  have HS := hide (state_any h hok z)
  by_cases h1 : A.isF z
  · have hz := h1
    have e1 : A.st z = A.s z.toNat := if_pos h1
    obtain ⟨k, rfl⟩ : ∃ k : Nat, z = (k : Int) := ⟨z.toNat, by have := h1.1; omega⟩
    have hk : k < 1024 := by have := h1.2; have := hok.2.1; omega
    rw [show ((k : Int)).toNat = k by omega] at e1
    by_cases h2 : A.s k = was
    · have ea : A.turnA k was is = A.put k is := if_pos (e1.trans h2)
      have ee : A.turnE k was = 0 := by unfold Fr.turnE; rw [if_pos h1]; exact if_pos h2
      rw [ea, ee]
      rw [e1, h2] at HS
      have cs := h.cs k hk
      have fs := h.fr (2 + k)
      have H := hide (h.put k is)
      have hk1 : (0 : Int) ≤ (k : Int) := by omega
      have hk2 : (k : Int) < 1024 := by omega
      have hw1 : (was == -1) = false := by simpa using hwas
      clear h hok h1 hz e1 h2 ea ee
      go_enter Tryz.func146, Tryz.ntmps146
      go_wp2_with fail
      refine (unhide HS).mono ?_
      rintro e w ⟨rfl, rfl⟩
      go_wp2
      go_ret
      exact ⟨rfl, unhide H, Keeps.setCell (F := (· = b)) (p := ⟨b, 2 + k, none⟩) (Keeps.refl _ _) rfl _⟩
    · have ea : A.turnA k was is = A := if_neg (fun q => h2 (e1.symm.trans q))
      have ee : A.turnE k was = 3 := by unfold Fr.turnE; rw [if_pos h1]; exact if_neg h2
      rw [ea, ee]
      have hm : ((A.s k) == (-1 : Int)) = false := by have := hok.2.2 k; simp; omega
      have hm2 : ((A.s k) == was) = false := by simpa using h2
      rw [e1] at HS
      have H := hide h
      clear h hok h1 hz e1 h2 ea ee
      generalize A.s k = x at *
      go_enter Tryz.func146, Tryz.ntmps146
      go_wp2_with fail
      refine (unhide HS).mono ?_
      rintro e w ⟨rfl, rfl⟩
      go_wp2
      go_ret
      exact ⟨rfl, unhide H, Keeps.refl _ _⟩
  · have e1 : A.st z = -1 := if_neg h1
    have ea : A.turnA z was is = A := if_neg (fun q => hwas (by rw [← q, e1]))
    have ee : A.turnE z was = 1 := if_neg h1
    rw [ea, ee]
    rw [e1] at HS
    have H := hide h
    clear h hok h1 e1 ea ee
    go_enter Tryz.func146, Tryz.ntmps146
    go_wp2_with fail
    refine (unhide HS).mono ?_
    rintro e w ⟨rfl, rfl⟩
    go_wp2
    go_ret
    exact ⟨rfl, unhide H, Keeps.refl _ _⟩

theorem take_any {w : World} {b : Nat} {A : Fr} (h : FRep w b A) (hok : A.ok) (z : Int) :
    Calls Tryz.prog 180 #[.pointer (some ⟨b, 0, none⟩), .int .i64 z] w (FWent w b (A.turnA z 0 1) (.int .i64 (A.turnE z 0))) := by
  have HT := hide (turn_any h hok z 0 1 (by decide))
  clear h hok
  go_enter Tryz.func180, Tryz.ntmps180
  go_wp2_with fail
  unfold FWent
  refine (unhide HT).mono ?_
  rintro e w1 ⟨rfl, h1, h2⟩
  have H1 := hide h1
  have H2 := hide h2
  clear h1 h2
  go_wp2
  go_ret
  exact ⟨rfl, unhide H1, unhide H2⟩
theorem free_any {w : World} {b : Nat} {A : Fr} (h : FRep w b A) (hok : A.ok) (z : Int) :
    Calls Tryz.prog 82 #[.pointer (some ⟨b, 0, none⟩), .int .i64 z] w (FWent w b (A.turnA z 1 0) (.int .i64 (A.turnE z 1))) := by
  have HT := hide (turn_any h hok z 1 0 (by decide))
  clear h hok
  go_enter Tryz.func82, Tryz.ntmps82
  go_wp2_with fail
  unfold FWent
  refine (unhide HT).mono ?_
  rintro e w1 ⟨rfl, h1, h2⟩
  have H1 := hide h1
  have H2 := hide h2
  clear h1 h2
  go_wp2
  go_ret
  exact ⟨rfl, unhide H1, unhide H2⟩

theorem alloc_any {w : World} {b : Nat} {A : Fr} (h : FRep w b A) (hok : A.ok) :
    Calls Tryz.prog 137 #[.pointer (some ⟨b, 0, none⟩)] w (FWent w b A.allocA (.tuple #[.int .i64 A.allocV, .int .i64 A.allocE])) := by
  have c1 := h.c1
  have h1024 := hok.2.1
  have H := hide h
  have HOK := hide hok
  clear h hok
  obtain ⟨n, hn⟩ : ∃ n, n = A.hi := ⟨_, rfl⟩
  rw [← hn] at c1 h1024
  have HN := hide hn
  clear hn
  go_enter Tryz.func137, Tryz.ntmps137
  go_wp2_with fail
  go_loopw [9] (fun i wr => ∃ k : Nat, k ≤ n ∧ i = .int .i64 k ∧ wr = w ∧ ∀ j, j < k → A.fr j = false) (fun i _ => n - (intOf i).toNat)
  case atStart => exact ⟨0, by omega, rfl, rfl, fun j hj => by omega⟩
  case round =>
    obtain ⟨k, hk, rfl, rfl, hno⟩ := hrel
    have HNO := hide hno
    clear hno
    by_cases hlt : k < n
    · have HS := hide (state_any (unhide H) (unhide HOK) (k : Int))
      have hk' : (k : Int) < (n : Int) := by omega
      have HSF := hide (st_free (A := A) k (by have := unhide HN; omega))
      rcases Bool.eq_false_or_eq_true (A.fr k) with hf | hf
      · have e0 := (unhide HSF).2 hf
        rw [e0] at HS
        have ef : A.first = some k := first_some (by have := unhide HN; omega) hf (unhide HNO)
        have cs := (unhide H).cs k (by omega)
        have fs := (unhide H).fr (2 + k)
        have HP := hide ((unhide H).put k 1)
        have hk1 : (0 : Int) ≤ (k : Int) := by omega
        have hk2 : (k : Int) < 1024 := by omega
        have ea : A.allocA = A.put k 1 := by unfold Fr.allocA; rw [ef]
        have ev : A.allocV = (k : Int) := by unfold Fr.allocV; rw [ef]
        have ee : A.allocE = 0 := by unfold Fr.allocE; rw [ef]
        rw [ea, ev, ee]
        clear HSF e0 ef ea ev ee hf
        go_wp2_with fail
        refine (unhide HS).mono ?_
        rintro e wr ⟨rfl, rfl⟩
        go_wp2_with fail
        go_ret2
        exact ⟨rfl, unhide HP, Keeps.setCell (F := (· = b)) (p := ⟨b, 2 + k, none⟩) (Keeps.refl _ _) rfl _⟩
      · obtain ⟨x, hx⟩ : ∃ x, x = A.st (k : Int) := ⟨_, rfl⟩
        have e0 : (x == (0 : Int)) = false := by
          have : ¬ A.st (k : Int) = 0 := fun q => by rw [(unhide HSF).1 q] at hf; simp at hf
          rw [hx]; simpa using this
        rw [← hx] at HS
        have HF := hide hf
        clear HSF hf hx
        go_wp2_with fail
        refine (unhide HS).mono ?_
        rintro e wr ⟨rfl, rfl⟩
        go_wp2_with fail
        go_roundw
        case rel => exact ⟨k + 1, by omega, by go_num, by trivial, fun j hj => by
          by_cases hjk : j = k
          · rw [hjk]; exact unhide HF
          · exact unhide HNO j (by omega)⟩
        case measure => simp [intOf]; omega
    · obtain rfl : k = n := by omega
      have ef : A.first = none := first_none fun i hi => unhide HNO i (by have := unhide HN; omega)
      have ea : A.allocA = A := by unfold Fr.allocA; rw [ef]
      have ev : A.allocV = 0 := by unfold Fr.allocV; rw [ef]
      have ee : A.allocE = 10 := by unfold Fr.allocE; rw [ef]
      have HE := hide (And.intro ea (And.intro ev ee))
      clear ea ev ee ef
      go_wp2_with fail
      go_ret2
      obtain ⟨ea, ev, ee⟩ := unhide HE
      rw [ea, ev, ee]
      exact ⟨rfl, unhide H, Keeps.refl _ _⟩

theorem left_any {w : World} {b : Nat} {A : Fr} (h : FRep w b A) (hok : A.ok) :
    Calls Tryz.prog 73 #[.pointer (some ⟨b, 0, none⟩)] w fun e w' => e = .returned (.int .i64 (A.left : Int)) ∧ w' = w := by
  have c1 := h.c1
  have h1024 := hok.2.1
  have H := hide h
  have HOK := hide hok
  clear h hok
  obtain ⟨n, hn⟩ : ∃ n, n = A.hi := ⟨_, rfl⟩
  rw [← hn] at c1 h1024
  have HN := hide hn
  clear hn
  go_enter Tryz.func73, Tryz.ntmps73
  go_wp2_with fail
  go_loopw [3, 9] (fun m i wr => ∃ k : Nat, k ≤ n ∧ m = .int .i64 (A.leftTo k : Int) ∧ i = .int .i64 k ∧ wr = w) (fun _ i _ => n - (intOf i).toNat)
  case atStart => exact ⟨0, by omega, rfl, rfl, rfl⟩
  case round =>
    obtain ⟨k, hk, rfl, rfl, rfl⟩ := hrel
    obtain ⟨m, hm⟩ : ∃ m, m = A.leftTo k := ⟨_, rfl⟩
    have hmk : m ≤ k := by rw [hm]; exact leftTo_le A k
    rw [← hm]
    have HM := hide hm
    clear hm
    by_cases hlt : k < n
    · have HS := hide (state_any (unhide H) (unhide HOK) (k : Int))
      have hk' : (k : Int) < (n : Int) := by omega
      have HSF := hide (st_free (A := A) k (by have := unhide HN; omega))
      rcases Bool.eq_false_or_eq_true (A.fr k) with hf | hf
      · rw [(unhide HSF).2 hf] at HS
        have HX : Hid (A.leftTo (k + 1) = m + 1) := by show _ = _; rw [leftTo_next, if_pos hf, unhide HM]
        clear HSF hf
        go_wp2_with fail
        refine (unhide HS).mono ?_
        rintro e wr ⟨rfl, rfl⟩
        go_wp2_with fail
        go_roundw
        case rel => exact ⟨k + 1, by omega, by rw [unhide HX]; go_num, by go_num, by trivial⟩
        case measure => simp [intOf]; omega
      · obtain ⟨x, hx⟩ : ∃ x, x = A.st (k : Int) := ⟨_, rfl⟩
        have e0 : (x == (0 : Int)) = false := by
          have : ¬ A.st (k : Int) = 0 := fun q => by rw [(unhide HSF).1 q] at hf; simp at hf
          rw [hx]; simpa using this
        rw [← hx] at HS
        have HX : Hid (A.leftTo (k + 1) = m) := by show _ = _; rw [leftTo_next, if_neg (by simp [hf]), unhide HM]; rfl
        clear HSF hf hx
        go_wp2_with fail
        refine (unhide HS).mono ?_
        rintro e wr ⟨rfl, rfl⟩
        go_wp2_with fail
        go_roundw
        case rel => exact ⟨k + 1, by omega, by rw [unhide HX], by go_num, by trivial⟩
        case measure => simp [intOf]; omega
    · obtain rfl : k = n := by omega
      have HX : Hid (A.left = m) := by show A.leftTo A.hi = _; rw [← unhide HN, unhide HM]
      go_wp2_with fail
      go_ret
      exact ⟨by rw [unhide HX]; rfl, rfl⟩

end Go.Proofs.YtiafhcgaikapcaaGreat
