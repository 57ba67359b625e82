
/-
  What Store, Flush and Fence do: a step that is done, or the power is off.
-/
import Derived.Test.YtjidekjeibdbgaaNFence
namespace Go.Proofs.Ytjidekjeibdbgaa
open Go.ChangeShapes Go.WideShapes Go.ChangeAt Go.RowKit Go.Joins
set_option linter.unusedVariables false
set_option linter.unusedSimpArgs false

theorem may_iff (A : Mm) : A.may = true ↔ A.on = true ∧ A.fuse ≠ 0 := by simp [Mm.may]

theorem step_any {w : World} {F : Nat → Prop} {b c : Nat} {A : Mm} {cs : Nat → Cel} (h : Rep w F b A c cs) (hs : A.steps ≤ 1000000) (hf0 : -1 ≤ A.fuse) (hf1 : A.fuse ≤ 9223372036854775807) (f : Nat) (caps : Array Value) (l' : Nat → Ln) (hcall : ∀ W : World, Sem.run Try.prog (callFunc f caps) W = .ok (.enter f caps) W)
    (hdo : A.may = true → Calls Try.prog f caps w (Went F w b c ⟨A.n, l', A.on, A.fuse, A.steps⟩ (.tuple #[]))) :
    Calls Try.prog 45 #[.pointer (some ⟨b, 0, none⟩), .func (.func f) #[] caps] w (Went F w b c (A.step l') (.int .i64 A.err)) := by
  have c1 := h.c1
  have c2 := h.c2
  have f1 := h.fr 1
  have H := hide h
  clear h
  by_cases hz : A.fuse = 0
  · have hm : A.may = false := by simp [Mm.may, hz]
    rw [hz] at c2
    have HM := hide hm
    have HZ := hide hz
    clear hm hz hdo
    go_enter Try.func45, Try.ntmps45
    go_wp2
    go_ret
    unfold Mm.err Mm.step
    rw [unhide HM]
    refine ⟨rfl, F, cs, ?_, Keeps.setCell (F := F) (p := ⟨b, 1, none⟩) (Keeps.refl _ _) (unhide H).fb _, Grew.refl _ _⟩
    exact (unhide H).head (Keeps.setCell (F := (· = b)) (p := ⟨b, 1, none⟩) (Keeps.refl _ _) rfl _) _ _ _ (head_set (unhide H).hd 1 _ _ fun _ => rfl)
  · by_cases hon : A.on = true
    · have hm : A.may = true := by simp [Mm.may, hz, hon]
      have HD := hide (hdo hm)
      rw [hon] at c1
      have HM := hide hm
      have HON := hide hon
      have hz' : (A.fuse == 0) = false := by simp [hz]
      clear hm hon hdo
      go_enter Try.func45, Try.ntmps45
      go_wp2_with fail
      refine (unhide HD).mono ?_
      rintro e w1 ⟨rfl, F1, cs1, h1, hk1, hg1⟩
      have d2 := h1.c2
      have d3 := h1.c3
      have g2 := h1.fr 2
      have g3 := h1.fr 3
      simp only at d2 d3
      have H1 := hide h1
      have HK1 := hide hk1
      have HG1 := hide hg1
      clear h1 hk1 hg1
      by_cases hp : 0 < A.fuse
      · go_wp2
        go_ret
        unfold Mm.err Mm.step
        rw [unhide HM]
        refine ⟨rfl, F1, cs1, ?_, (unhide HK1).trans (unhide HG1) (Keeps.setCell (F := F1) (p := ⟨b, 2, none⟩) (Keeps.setCell (F := F1) (p := ⟨b, 3, none⟩) (Keeps.refl _ _) (unhide H1).fb _) (unhide H1).fb _), unhide HG1⟩
        have hh := (unhide H1).head (Keeps.setCell (F := (· = b)) (p := ⟨b, 2, none⟩) (Keeps.setCell (F := (· = b)) (p := ⟨b, 3, none⟩) (Keeps.refl _ _) rfl _) rfl _) A.on (A.fuse - 1) (A.steps + 1) (head_set (head_set (unhide H1).hd 3 (.int .i64 ((A.steps : Int) + 1)) ⟨A.n, l', A.on, A.fuse, A.steps + 1⟩ (fun _ => by simp [headOf])) 2 (.int .i64 (A.fuse - 1)) _ fun _ => rfl)
        simp only [if_true, Mm.stepped, gt_iff_lt, hp]; exact hh
      · go_wp2
        go_ret
        unfold Mm.err Mm.step
        rw [unhide HM]
        refine ⟨rfl, F1, cs1, ?_, (unhide HK1).trans (unhide HG1) (Keeps.setCell (F := F1) (p := ⟨b, 3, none⟩) (Keeps.refl _ _) (unhide H1).fb _), unhide HG1⟩
        have hh := (unhide H1).head (Keeps.setCell (F := (· = b)) (p := ⟨b, 3, none⟩) (Keeps.refl _ _) rfl _) A.on A.fuse (A.steps + 1) (head_set (unhide H1).hd 3 (.int .i64 ((A.steps : Int) + 1)) ⟨A.n, l', A.on, A.fuse, A.steps + 1⟩ (fun _ => by simp [headOf]))
        have hp' : ¬ (0 < A.fuse) := by omega
        simp only [if_true, Mm.stepped, gt_iff_lt, hp', if_false]; exact hh
    · have hm : A.may = false := by simp [Mm.may, hon]
      have hon' : A.on = false := by simpa using hon
      rw [hon'] at c1
      have HM := hide hm
      have HON := hide hon'
      have hz' : (A.fuse == 0) = false := by simp [hz]
      clear hm hon hon' hdo
      go_enter Try.func45, Try.ntmps45
      go_wp2
      go_ret
      unfold Mm.err Mm.step
      rw [unhide HM]
      refine ⟨rfl, F, cs, ?_, Keeps.refl _ _, Grew.refl _ _⟩
      have := unhide H
      have e : A.off = A := by have h1 := unhide HON; unfold Mm.off; rw [← h1]
      simp only [Bool.false_eq_true, if_false, e]; exact this

/-! ### Store, Flush, Fence -/
theorem cell_box (w : World) (v : Value) (t : TypeId) (n : Nat) (hn : n = w.heap.size) : (w.alloc (.cells #[v] t)).cell? ⟨n, 0, none⟩ = some v := by subst hn; rw [cell_of_block (heap_new w _)]; rfl
theorem cell_under {w : World} {b o : Nat} {v : Value} (h : w.cell? ⟨b, o, none⟩ = some v) (ob : Obj) : (w.alloc ob).cell? ⟨b, o, none⟩ = some v :=
  (World.cell?_alloc_some w _ _ (by rw [h]; rfl)).trans h
theorem Rep.fresh {w : World} {F : Nat → Prop} {b c : Nat} {A : Mm} {cs : Nat → Cel} (h : Rep w F b A c cs) (j : Nat) : ¬ F (w.heap.size + j) := fun hf => by have := h.lt _ hf; omega

theorem store_any {w : World} {F : Nat → Prop} {b c : Nat} {A : Mm} {cs : Nat → Cel} (h : Rep w F b A c cs) (hok : A.ok 1000) (z y : Int) (k q : Nat) (ez : z = (k : Int)) (ey : y = (q : Int)) (hk : k < A.n) (hq : q < 8) (v : Int) :
    Calls Try.prog 22 #[.pointer (some ⟨b, 0, none⟩), .int .i64 z, .int .i64 y, .int .u64 v] w (Went F w b c (A.store k q v) (.int .i64 A.err)) := by
  have H := hide h
  obtain ⟨o1, o2, o3, o4, o5, o6, o7⟩ := hok
  have D1 : decide ((0 : Int) ≤ z ∧ z < (A.n : Int)) = true := by simp; omega
  have D2 : decide ((0 : Int) ≤ y ∧ y < 8) = true := by simp; omega
  have EZ := hide ez
  have EY := hide ey
  clear h ez ey
  have H1 := hide ((unhide H).alloc (.cells #[.pointer (some ⟨b, 0, none⟩)] 37) |>.alloc (.cells #[.int .i64 z] 3) |>.alloc (.cells #[.int .i64 y] 3) |>.alloc (.cells #[.int .u64 v] 22))
  have HK : Hid (Keeps F w ((((w.alloc (.cells #[.pointer (some ⟨b, 0, none⟩)] 37)).alloc (.cells #[.int .i64 z] 3)).alloc (.cells #[.int .i64 y] 3)).alloc (.cells #[.int .u64 v] 22))) := (Keeps.refl F w).alloc _ |>.alloc _ |>.alloc _ |>.alloc _
  go_enter Try.func22, Try.ntmps22
  go_wp2_with fail
  refine (isLine_any (unhide H1) _).mono ?_
  rintro e w1 ⟨rfl, rfl⟩
  rw [D1]
  go_wp2_with fail
  refine (isWord_any _ _).mono ?_
  rintro e w1 ⟨rfl, rfl⟩
  rw [D2]
  go_wp2_with fail
  refine (step_any (unhide H1) (by omega) o5 o6 46 _ (upd A.l k ((A.l k).store q v)) (fun W => by kernel_rfl) (fun _ =>
    storeDo (unhide H1) k q hk hq v (by have := o4 k; omega) o2 w.heap.size (w.heap.size + 1) (w.heap.size + 1 + 1) (w.heap.size + 1 + 1 + 1) ?_ ?_ ?_ ?_ ?_ ?_)).mono ?_
  · exact cell_under (cell_under (cell_under (cell_box w _ _ _ rfl) _) _) _
  · rw [← unhide EZ]; exact cell_under (cell_under (cell_box _ _ _ _ (by simp)) _) _
  · rw [← unhide EY]; exact cell_under (cell_box _ _ _ _ (by simp)) _
  · exact cell_box _ _ _ _ (by simp)
  · exact (unhide H).fresh 2
  · exact (unhide H).fresh 3
  rintro e w' ⟨rfl, F', cs', hr, hkp, hg⟩
  have HR := hide hr
  have HKP := hide hkp
  have HG := hide hg
  clear hr hkp hg
  go_wp2_with fail
  go_ret
  exact ⟨rfl, F', cs', unhide HR, (unhide HK).trans' (unhide HKP), fun x hx => (unhide HG x hx).imp id fun h => Nat.le_trans (unhide HK).size h⟩

theorem store_bad {w : World} {F : Nat → Prop} {b c : Nat} {A : Mm} {cs : Nat → Cel} (h : Rep w F b A c cs) (z y v : Int) (hz : ¬ ((0 ≤ z ∧ z < A.n) ∧ (0 ≤ y ∧ y < 8))) :
    Calls Try.prog 22 #[.pointer (some ⟨b, 0, none⟩), .int .i64 z, .int .i64 y, .int .u64 v] w (Went F w b c A (.int .i64 1)) := by
  have H := hide h
  clear h
  have H1 := hide ((unhide H).alloc (.cells #[.pointer (some ⟨b, 0, none⟩)] 37) |>.alloc (.cells #[.int .i64 z] 3) |>.alloc (.cells #[.int .i64 y] 3) |>.alloc (.cells #[.int .u64 v] 22))
  have HK : Hid (Keeps F w ((((w.alloc (.cells #[.pointer (some ⟨b, 0, none⟩)] 37)).alloc (.cells #[.int .i64 z] 3)).alloc (.cells #[.int .i64 y] 3)).alloc (.cells #[.int .u64 v] 22))) := (Keeps.refl F w).alloc _ |>.alloc _ |>.alloc _ |>.alloc _
  by_cases h1 : 0 ≤ z ∧ z < A.n
  · have h2 : ¬ (0 ≤ y ∧ y < 8) := fun h => hz ⟨h1, h⟩
    have D1 : decide ((0 : Int) ≤ z ∧ z < (A.n : Int)) = true := by simpa using h1
    have D2 : decide ((0 : Int) ≤ y ∧ y < 8) = false := by simpa using h2
    clear hz h1 h2
    go_enter Try.func22, Try.ntmps22
    go_wp2_with fail
    refine (isLine_any (unhide H1) _).mono ?_
    rintro e w1 ⟨rfl, rfl⟩
    rw [D1]
    go_wp2_with fail
    refine (isWord_any _ _).mono ?_
    rintro e w1 ⟨rfl, rfl⟩
    rw [D2]
    go_wp2_with fail
    go_ret
    exact ⟨rfl, F, cs, unhide H1, unhide HK, Grew.refl _ _⟩
  · have D1 : decide ((0 : Int) ≤ z ∧ z < (A.n : Int)) = false := by simpa using h1
    clear hz h1
    go_enter Try.func22, Try.ntmps22
    go_wp2_with fail
    refine (isLine_any (unhide H1) _).mono ?_
    rintro e w1 ⟨rfl, rfl⟩
    rw [D1]
    go_wp2_with fail
    go_ret
    exact ⟨rfl, F, cs, unhide H1, unhide HK, Grew.refl _ _⟩

theorem flush_any {w : World} {F : Nat → Prop} {b c : Nat} {A : Mm} {cs : Nat → Cel} (h : Rep w F b A c cs) (hok : A.ok 1000) (y z : Int) (q k : Nat) (ey : y = (q : Int)) (ez : z = (k : Int)) (hq : q < 8) (hk : k < A.n) :
    Calls Try.prog 54 #[.pointer (some ⟨b, 0, none⟩), .int .i64 y, .int .i64 z] w (Went F w b c (A.flush q k) (.int .i64 A.err)) := by
  have H := hide h
  obtain ⟨o1, o2, o3, o4, o5, o6, o7⟩ := hok
  have D1 : decide ((0 : Int) ≤ z ∧ z < (A.n : Int)) = true := by simp; omega
  have D2 : decide ((0 : Int) ≤ y ∧ y < 8) = true := by simp; omega
  have EZ := hide ez
  have EY := hide ey
  clear h ez ey
  have H1 := hide ((unhide H).alloc (.cells #[.pointer (some ⟨b, 0, none⟩)] 37) |>.alloc (.cells #[.int .i64 y] 3) |>.alloc (.cells #[.int .i64 z] 3))
  have HK : Hid (Keeps F w (((w.alloc (.cells #[.pointer (some ⟨b, 0, none⟩)] 37)).alloc (.cells #[.int .i64 y] 3)).alloc (.cells #[.int .i64 z] 3))) := (Keeps.refl F w).alloc _ |>.alloc _ |>.alloc _
  go_enter Try.func54, Try.ntmps54
  go_wp2_with fail
  refine (isCore_any _ _).mono ?_
  rintro e w1 ⟨rfl, rfl⟩
  rw [D2]
  go_wp2_with fail
  refine (isLine_any (unhide H1) _).mono ?_
  rintro e w1 ⟨rfl, rfl⟩
  rw [D1]
  go_wp2_with fail
  refine (step_any (unhide H1) (by omega) o5 o6 69 _ (upd A.l k ((A.l k).flush q)) (fun W => by kernel_rfl) (fun _ =>
    flushDo (unhide H1) k q hk hq (by have := o4 k; omega) o2 w.heap.size (w.heap.size + 1 + 1) (w.heap.size + 1) ?_ ?_ ?_)).mono ?_
  · exact cell_under (cell_under (cell_box w _ _ _ rfl) _) _
  · rw [← unhide EZ]; exact cell_box _ _ _ _ (by simp)
  · rw [← unhide EY]; exact cell_under (cell_box _ _ _ _ (by simp)) _
  rintro e w' ⟨rfl, F', cs', hr, hkp, hg⟩
  have HR := hide hr
  have HKP := hide hkp
  have HG := hide hg
  clear hr hkp hg
  go_wp2_with fail
  go_ret
  exact ⟨rfl, F', cs', unhide HR, (unhide HK).trans' (unhide HKP), fun x hx => (unhide HG x hx).imp id fun h => Nat.le_trans (unhide HK).size h⟩

theorem flush_bad {w : World} {F : Nat → Prop} {b c : Nat} {A : Mm} {cs : Nat → Cel} (h : Rep w F b A c cs) (y z : Int) (hz : ¬ ((0 ≤ y ∧ y < 8) ∧ (0 ≤ z ∧ z < A.n))) :
    Calls Try.prog 54 #[.pointer (some ⟨b, 0, none⟩), .int .i64 y, .int .i64 z] w (Went F w b c A (.int .i64 1)) := by
  have H := hide h
  clear h
  have H1 := hide ((unhide H).alloc (.cells #[.pointer (some ⟨b, 0, none⟩)] 37) |>.alloc (.cells #[.int .i64 y] 3) |>.alloc (.cells #[.int .i64 z] 3))
  have HK : Hid (Keeps F w (((w.alloc (.cells #[.pointer (some ⟨b, 0, none⟩)] 37)).alloc (.cells #[.int .i64 y] 3)).alloc (.cells #[.int .i64 z] 3))) := (Keeps.refl F w).alloc _ |>.alloc _ |>.alloc _
  by_cases h1 : 0 ≤ y ∧ y < 8
  · have h2 : ¬ (0 ≤ z ∧ z < A.n) := fun h => hz ⟨h1, h⟩
    have D1 : decide ((0 : Int) ≤ y ∧ y < 8) = true := by simpa using h1
    have D2 : decide ((0 : Int) ≤ z ∧ z < (A.n : Int)) = false := by simpa using h2
    clear hz h1 h2
    go_enter Try.func54, Try.ntmps54
    go_wp2_with fail
    refine (isCore_any _ _).mono ?_
    rintro e w1 ⟨rfl, rfl⟩
    rw [D1]
    go_wp2_with fail
    refine (isLine_any (unhide H1) _).mono ?_
    rintro e w1 ⟨rfl, rfl⟩
    rw [D2]
    go_wp2_with fail
    go_ret
    exact ⟨rfl, F, cs, unhide H1, unhide HK, Grew.refl _ _⟩
  · have D1 : decide ((0 : Int) ≤ y ∧ y < 8) = false := by simpa using h1
    clear hz h1
    go_enter Try.func54, Try.ntmps54
    go_wp2_with fail
    refine (isCore_any _ _).mono ?_
    rintro e w1 ⟨rfl, rfl⟩
    rw [D1]
    go_wp2_with fail
    go_ret
    exact ⟨rfl, F, cs, unhide H1, unhide HK, Grew.refl _ _⟩

theorem fence_any {w : World} {F : Nat → Prop} {b c : Nat} {A : Mm} {cs : Nat → Cel} (h : Rep w F b A c cs) (hok : A.ok 1000) (y : Int) (q : Nat) (ey : y = (q : Int)) (hq : q < 8) :
    Calls Try.prog 55 #[.pointer (some ⟨b, 0, none⟩), .int .i64 y] w (Went F w b c (A.fence q) (.int .i64 A.err)) := by
  have H := hide h
  obtain ⟨o1, o2, o3, o4, o5, o6, o7⟩ := hok
  have D2 : decide ((0 : Int) ≤ y ∧ y < 8) = true := by simp; omega
  have EY := hide ey
  clear h ey
  have H1 := hide ((unhide H).alloc (.cells #[.pointer (some ⟨b, 0, none⟩)] 37) |>.alloc (.cells #[.int .i64 y] 3))
  have HK : Hid (Keeps F w ((w.alloc (.cells #[.pointer (some ⟨b, 0, none⟩)] 37)).alloc (.cells #[.int .i64 y] 3))) := (Keeps.refl F w).alloc _ |>.alloc _
  go_enter Try.func55, Try.ntmps55
  go_wp2_with fail
  refine (isCore_any _ _).mono ?_
  rintro e w1 ⟨rfl, rfl⟩
  rw [D2]
  go_wp2_with fail
  refine (step_any (unhide H1) (by omega) o5 o6 70 _ (fun i => (A.l i).settle ((A.l i).f q)) (fun W => by kernel_rfl) (fun _ =>
    fenceDo (unhide H1) q hq o3 (fun i => by have := o4 i; omega) o2 w.heap.size (w.heap.size + 1) ?_ ?_ ?_ ?_)).mono ?_
  · exact cell_under (cell_box w _ _ _ rfl) _
  · rw [← unhide EY]; exact cell_box _ _ _ _ (by simp)
  · exact (unhide H).fresh 0
  · exact (unhide H).fresh 1
  rintro e w' ⟨rfl, F', cs', hr, hkp, hg⟩
  have HR := hide hr
  have HKP := hide hkp
  have HG := hide hg
  clear hr hkp hg
  go_wp2_with fail
  go_ret
  exact ⟨rfl, F', cs', unhide HR, (unhide HK).trans' (unhide HKP), fun x hx => (unhide HG x hx).imp id fun h => Nat.le_trans (unhide HK).size h⟩

theorem fence_bad {w : World} {F : Nat → Prop} {b c : Nat} {A : Mm} {cs : Nat → Cel} (h : Rep w F b A c cs) (y : Int) (hz : ¬ (0 ≤ y ∧ y < 8)) :
    Calls Try.prog 55 #[.pointer (some ⟨b, 0, none⟩), .int .i64 y] w (Went F w b c A (.int .i64 1)) := by
  have H := hide h
  clear h
  have H1 := hide ((unhide H).alloc (.cells #[.pointer (some ⟨b, 0, none⟩)] 37) |>.alloc (.cells #[.int .i64 y] 3))
  have HK : Hid (Keeps F w ((w.alloc (.cells #[.pointer (some ⟨b, 0, none⟩)] 37)).alloc (.cells #[.int .i64 y] 3))) := (Keeps.refl F w).alloc _ |>.alloc _
  have D1 : decide ((0 : Int) ≤ y ∧ y < 8) = false := by simpa using hz
  clear hz
  go_enter Try.func55, Try.ntmps55
  go_wp2_with fail
  refine (isCore_any _ _).mono ?_
  rintro e w1 ⟨rfl, rfl⟩
  rw [D1]
  go_wp2_with fail
  go_ret
  exact ⟨rfl, F, cs, unhide H1, unhide HK, Grew.refl _ _⟩

end Go.Proofs.Ytjidekjeibdbgaa
