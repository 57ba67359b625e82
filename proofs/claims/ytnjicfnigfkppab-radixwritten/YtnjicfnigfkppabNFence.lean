
/-
  What the closures of Flush and Fence do to a memory.
-/
import Derived.Test.YtnjicfnigfkppabNStore
namespace Go.Proofs.Ytnjicfnigfkppab
open Go.ChangeShapes Go.WideShapes Go.ChangeAt Go.RowKit Go.Joins
set_option linter.unusedVariables false
set_option linter.unusedSimpArgs false

/-- One line is another one, its stores in the block where they were. -/
theorem Rep.line_same {w w' : World} {F : Nat → Prop} {b c : Nat} {A : Mm} {cs : Nat → Cel} (h : Rep w F b A c cs) (k : Nat) (hk : k < A.n) (C' : Cel) (hK : Keeps (· = c) w w')
    (hbl : Blk w' c (A.n * 25) 60 (putC (encF cs) (k * 25) C')) (hrow : Row 106 w' C') (hblk : ∀ g, C'.blk = some g → (cs k).blk = some g) :
    Rep w' F b ⟨A.n, upd A.l k C'.l, A.on, A.fuse, A.steps⟩ c (upd cs k C') := by
  have h1 := h.line k hk C' hK (fun x hx => Or.inl hx) hbl hrow (fun g hg => Or.inl (hblk g hg))
  exact h1.more (fun x hx => hx.elim id fun e => (h.ap k hk x (hblk x e)).2.2) (fun x hx => h1.lt x (Or.inl hx))

theorem Row.of_t {T : TypeId} {w : World} {C C' : Cel} (h : Row T w C) (h1 : C'.ad = C.ad) (h2 : C'.cap = C.cap) (h3 : C'.l.t = C.l.t) : Row T w C' := by
  unfold Row at *
  rw [h1, h2, h3]
  rcases h with h | ⟨g, off, cur, a1, a2, a3, a4, a5, a6⟩
  · exact Or.inl h
  · exact Or.inr ⟨g, off, cur, a1, a2, a3, a4, a5, fun j hj => by
      have := a6 j hj
      simpa [h3] using this⟩
theorem put_flush (cs : Nat → Cel) (k q : Nat) (hq : q < 8) (i : Nat) :
    upd (encF cs) (k * 25 + 17 + q) (.int .i64 ((cs k).l.t.length : Int)) i = putC (encF cs) (k * 25) ⟨(cs k).l.flush q, (cs k).ad, (cs k).cap⟩ i := by
  unfold putC
  by_cases h1 : i = k * 25 + 17 + q
  · subst h1
    rw [upd_same, if_pos (by omega), show k * 25 + 17 + q - k * 25 = 17 + q by omega]
    simp [encAt, show ¬ (17 + q < 8) by omega, show ¬ (17 + q < 16) by omega, show ¬ (17 + q = 16) by omega, Ln.flush, upd]
  · rw [upd_other _ _ _ _ h1]
    by_cases h3 : k * 25 ≤ i ∧ i < k * 25 + 25
    · rw [if_pos h3]
      obtain ⟨j, rfl⟩ : ∃ j, i = k * 25 + j := ⟨i - k * 25, by omega⟩
      rw [encF_at _ _ _ (by omega), show k * 25 + j - k * 25 = j by omega]
      unfold encAt
      by_cases h4 : j < 8
      · rw [if_pos h4, if_pos h4]; rfl
      · by_cases h5 : j < 16
        · rw [if_neg h4, if_neg h4, if_pos h5, if_pos h5]; rfl
        · by_cases h6 : j = 16
          · subst h6; rfl
          · rw [if_neg h4, if_neg h4, if_neg h5, if_neg h5, if_neg h6, if_neg h6]
            show _ = Value.int _ ((upd (cs k).l.f q _ (j - 17) : Nat) : Int)
            rw [upd_other _ _ _ _ (by omega)]
    · rw [if_neg h3]

/-- The lines of which the first k are settled by a core's Fence. -/
def fenceTo (A : Mm) (q k : Nat) : Nat → Ln := fun i => if i < k then (A.l i).settle ((A.l i).f q) else A.l i

theorem Rep.lines {w : World} {F : Nat → Prop} {b c : Nat} {A A' : Mm} {cs : Nat → Cel} (h : Rep w F b A c cs) (hn : A'.n = A.n) (h1 : A'.on = A.on) (h2 : A'.fuse = A.fuse) (h3 : A'.steps = A.steps) (hl : ∀ i, i < A.n → A'.l i = A.l i) :
    ∃ cs', Rep w F b A' c cs' := by
  refine ⟨fun i => if i < A.n then cs i else ⟨A'.l i, none, 0⟩, ?_, ?_, ?_, ?_, h.bc, ?_, ?_, h.fb, h.fc, h.lt⟩
  · obtain ⟨K, hd⟩ := h.hd
    have : headOf A' c K = headOf A c K := by unfold headOf; rw [hn, h1, h2, h3]
    exact ⟨K, by rw [this]; exact hd⟩
  · rw [hn]
    refine h.bl.ext fun i hi => ?_
    unfold encF
    simp only [show i / 25 < A.n by omega, if_true]
  · intro i
    by_cases hi : i < A.n
    · simp only [hi, if_true]; rw [h.ln i, hl i hi]
    · simp only [hi, if_false]
  · intro i hi
    rw [hn] at hi
    simp only [hi, if_true]; exact h.row i hi
  · intro i hi g hg
    rw [hn] at hi
    simp only [hi, if_true] at hg; exact h.ap i hi g hg
  · intro i j hi hj hij g hg
    rw [hn] at hi hj
    simp only [hi, hj, if_true] at hg ⊢; exact h.dj i j hi hj hij g hg

end Go.Proofs.Ytnjicfnigfkppab
