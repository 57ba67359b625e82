
/-
  What the document's is, step, Fuse and has do.
-/
import Derived.Test.YtmmgacpipcgkdaaNRef
namespace Go.Proofs.Ytmmgacpipcgkdaa
open Go.ChangeShapes Go.WideShapes Go.ChangeAt Go.RowKit Go.Joins
set_option maxRecDepth 10000
set_option linter.unusedVariables false
set_option linter.unusedSimpArgs false

section
variable {w : World} {F : Nat → Prop} {b gs cs gl : Nat} {A : Mm} {ads : Nat → Option Nat} {caps : Nat → Nat}

theorem ris_any (h : RRep w F b A gs cs gl ads caps) (z : Int) :
    Calls Try.prog 57 #[.pointer (some ⟨b, 0, none⟩), .int .i64 z] w fun e w' => e = .returned (.bool (decide (0 ≤ z ∧ z < A.n))) ∧ w' = w := by
  have c0 := h.c0
  clear h
  go_enter Try.func57, Try.ntmps57
  go_wp2
  all_goals go_ret
  all_goals refine ⟨nret_bool ?_, rfl⟩
  all_goals first | (refine decide_eq_decide.2 ?_; omega) | (symm; rw [decide_eq_false_iff_not]; omega) | (symm; rw [decide_eq_true_iff]; omega) | (simp; omega)

theorem rfuse_any (h : RRep w F b A gs cs gl ads caps) (z : Int) :
    Calls Try.prog 22 #[.pointer (some ⟨b, 0, none⟩), .int .i64 z] w (RWent F w b gs cs gl (A.fused z) (.tuple #[])) := by
  have c2 := h.c3
  have f2 := h.fr 3
  have H := hide h
  clear h
  by_cases hz : z < -1
  · go_enter Try.func22, Try.ntmps22
    go_wp2
    go_end0
    refine ⟨rfl, F, ads, caps, ?_, Keeps.setCell (F := F) (p := ⟨b, 3, none⟩) (Keeps.refl _ _) (unhide H).fb _, Grew.refl _ _⟩
    unfold Mm.fused
    rw [if_pos hz]
    exact (unhide H).head (Keeps.setCell (F := (· = b)) (p := ⟨b, 3, none⟩) (Keeps.refl _ _) rfl _) _ _ _ (rhead_set (unhide H).hd 3 _ _ rfl)
  · have hz' : -1 ≤ z := by omega
    go_enter Try.func22, Try.ntmps22
    go_wp2
    go_end0
    refine ⟨rfl, F, ads, caps, ?_, Keeps.setCell (F := F) (p := ⟨b, 3, none⟩) (Keeps.refl _ _) (unhide H).fb _, Grew.refl _ _⟩
    unfold Mm.fused
    rw [if_neg (by omega)]
    exact (unhide H).head (Keeps.setCell (F := (· = b)) (p := ⟨b, 3, none⟩) (Keeps.refl _ _) rfl _) _ _ _ (rhead_set (unhide H).hd 3 _ _ rfl)

/-- A step that is done leaves the lines. -/
theorem rstep_any (h : RRep w F b A gs cs gl ads caps) (hs : A.steps ≤ 1000000) (hf0 : -1 ≤ A.fuse) (hf1 : A.fuse ≤ 9223372036854775807) :
    Calls Try.prog 58 #[.pointer (some ⟨b, 0, none⟩)] w fun e w' => e = .returned (.int .i64 A.err) ∧ RRep w' F b (A.step A.l) gs cs gl ads caps ∧ Keeps F w w' := by
  have c2 := h.c2
  have c3 := h.c3
  have c4 := h.c4
  have f2 := h.fr 2
  have f3 := h.fr 3
  have f4 := h.fr 4
  have H := hide h
  clear h
  by_cases hon : A.on = true
  · rw [hon] at c2
    by_cases hz : A.fuse = 0
    · have hm : A.may = false := by simp [Mm.may, hz]
      have HE : Hid (A.err = 4) := by show _ = _; unfold Mm.err; rw [hm]; rfl
      have HS : Hid (A.step A.l = ⟨A.n, A.l, false, A.fuse, A.steps⟩) := by show _ = _; unfold Mm.step; rw [hm]; rfl
      rw [hz] at c3
      clear hm hz hon
      go_enter Try.func58, Try.ntmps58
      go_wp2
      go_ret
      rw [unhide HE, unhide HS]
      exact ⟨rfl, (unhide H).head (Keeps.setCell (F := (· = b)) (p := ⟨b, 2, none⟩) (Keeps.refl _ _) rfl _) _ _ _ (rhead_set (unhide H).hd 2 _ _ rfl), Keeps.setCell (F := F) (p := ⟨b, 2, none⟩) (Keeps.refl _ _) (unhide H).fb _⟩
    · have hm : A.may = true := by simp [Mm.may, hz, hon]
      have HE : Hid (A.err = 0) := by show _ = _; unfold Mm.err; rw [hm]; rfl
      have hz' : (A.fuse == 0) = false := by simp [hz]
      by_cases hp : 0 < A.fuse
      · have HS : Hid (A.step A.l = ⟨A.n, A.l, A.on, A.fuse - 1, A.steps + 1⟩) := by show _ = _; unfold Mm.step; rw [hm]; simp [Mm.stepped, hp]
        clear hm hz hon
        go_enter Try.func58, Try.ntmps58
        go_wp2
        go_ret
        rw [unhide HE, unhide HS]
        refine ⟨rfl, (unhide H).head (Keeps.setCell (F := (· = b)) (p := ⟨b, 4, none⟩) (Keeps.setCell (F := (· = b)) (p := ⟨b, 3, none⟩) (Keeps.refl _ _) rfl _) rfl _) A.on (A.fuse - 1) (A.steps + 1) ?_, Keeps.setCell (F := F) (p := ⟨b, 4, none⟩) (Keeps.setCell (F := F) (p := ⟨b, 3, none⟩) (Keeps.refl _ _) (unhide H).fb _) (unhide H).fb _⟩
        exact rhead_set (rhead_set (unhide H).hd 3 (.int .i64 (A.fuse - 1)) ⟨A.n, A.l, A.on, A.fuse - 1, A.steps⟩ rfl) 4 (.int .i64 ((A.steps : Int) + 1)) _ (by simp [rhead])
      · have HS : Hid (A.step A.l = ⟨A.n, A.l, A.on, A.fuse, A.steps + 1⟩) := by show _ = _; unfold Mm.step; rw [hm]; simp [Mm.stepped, hp]
        have hp' : ¬ (0 < A.fuse) := hp
        clear hm hz hon
        go_enter Try.func58, Try.ntmps58
        go_wp2
        go_ret
        rw [unhide HE, unhide HS]
        refine ⟨rfl, (unhide H).head (Keeps.setCell (F := (· = b)) (p := ⟨b, 4, none⟩) (Keeps.refl _ _) rfl _) A.on A.fuse (A.steps + 1) ?_, Keeps.setCell (F := F) (p := ⟨b, 4, none⟩) (Keeps.refl _ _) (unhide H).fb _⟩
        exact rhead_set (unhide H).hd 4 (.int .i64 ((A.steps : Int) + 1)) _ (by simp [rhead])
  · have hon' : A.on = false := by simpa using hon
    have hm : A.may = false := by simp [Mm.may, hon']
    have HE : Hid (A.err = 4) := by show _ = _; unfold Mm.err; rw [hm]; rfl
    have HS : Hid (A.step A.l = ⟨A.n, A.l, false, A.fuse, A.steps⟩) := by show _ = _; unfold Mm.step; rw [hm]; rfl
    rw [hon'] at c2
    clear hm hon hon'
    go_enter Try.func58, Try.ntmps58
    go_wp2
    go_ret
    rw [unhide HE, unhide HS]
    exact ⟨rfl, (unhide H).head (Keeps.setCell (F := (· = b)) (p := ⟨b, 2, none⟩) (Keeps.refl _ _) rfl _) _ _ _ (rhead_set (unhide H).hd 2 _ _ rfl), Keeps.setCell (F := F) (p := ⟨b, 2, none⟩) (Keeps.refl _ _) (unhide H).fb _⟩
end

end Go.Proofs.Ytmmgacpipcgkdaa
