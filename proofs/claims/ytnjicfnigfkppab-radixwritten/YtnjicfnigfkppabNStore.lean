
/-
  What the closures of Store and Flush do to a memory.
-/
import Derived.Test.YtnjicfnigfkppabNSmall
import Derived.Deep.RegionHeld3
import Derived.Deep.RegionLawGrows
import Derived.Deep.Cut
namespace Go.Proofs.Ytnjicfnigfkppab
open Go.ChangeShapes Go.WideShapes Go.ChangeAt Go.RowKit Go.Joins
set_option linter.unusedVariables false
set_option linter.unusedSimpArgs false

/-- A store more where there is room. -/
theorem row_room {T : TypeId} {w X : World} {C : Cel} (hrow : Row T w C) (q : Nat) (v : Int) (hroom : C.l.t.length + 1 ≤ C.cap) :
    ∃ g off, C.ad = some (g, off) ∧ (∀ W : World, W.heap[g]? = w.heap[g]? → Row T (W.setCells g (off + C.l.t.length * 2) [.int .i64 q, .int .u64 v]) ⟨C.l.store q v, C.ad, C.cap⟩) ∧
      (∀ W : World, W.heap[g]? = w.heap[g]? → ∀ j, j < 2 → (W.cell? ⟨g, off + C.l.t.length * 2 + j, none⟩).isSome = true ∧ W.frozen? ⟨g, off + C.l.t.length * 2 + j, none⟩ = false) := by
  rcases hrow with ⟨_, h, _⟩ | ⟨g, off, cur, h1, h2, h3, h4, h5, h6⟩
  · omega
  · refine ⟨g, off, h1, fun W hW => Or.inr ⟨g, off, (cur.setIfInBounds (off + C.l.t.length * 2) (.int .i64 q)).setIfInBounds (off + C.l.t.length * 2 + 1) (.int .u64 v), h1, ?_, ?_, ?_, h5, ?_⟩, fun W hW j hj => ?_⟩
    · have e1 := block_setCell (hW.trans h2) (.int .i64 (q : Int)) (i := off + C.l.t.length * 2)
      have e2 := block_setCell e1 (.int .u64 v) (i := off + C.l.t.length * 2 + 1)
      exact e2
    · simpa using h3
    · simpa [Ln.store] using hroom
    · intro j hj
      simp only [Ln.store, List.length_append, List.length_singleton] at hj
      by_cases hjl : j < C.l.t.length
      · rw [Array.getElem?_setIfInBounds_ne (by omega), Array.getElem?_setIfInBounds_ne (by omega), Array.getElem?_setIfInBounds_ne (by omega), Array.getElem?_setIfInBounds_ne (by omega)]
        have := h6 j hjl
        simpa [Ln.store, List.getElem_append_left hjl] using this
      · obtain rfl : j = C.l.t.length := by omega
        rw [Array.getElem?_setIfInBounds_ne (by omega), Array.getElem?_setIfInBounds_self_of_lt (by omega), Array.getElem?_setIfInBounds_self_of_lt (by rw [Array.size_setIfInBounds]; omega)]
        simp [Ln.store]
    · have hb := hW.trans h2
      exact ⟨by rw [cell_of_block hb, Array.getElem?_eq_getElem (by omega)]; rfl, unfrozen_of_block hb _⟩

/-- The cells of stores. -/
def stV (t : List (Nat × Int)) : List Value := t.flatMap fun p => [.int .i64 (p.1 : Int), .int .u64 p.2]
theorem stV_len (t : List (Nat × Int)) : (stV t).length = t.length * 2 := by
  induction t with
  | nil => rfl
  | cons x r ih => simp [stV] at ih ⊢; omega
theorem stV_get (t : List (Nat × Int)) (j : Nat) (h : j < t.length) : (stV t)[j * 2]? = some (.int .i64 ((t[j]).1 : Int)) ∧ (stV t)[j * 2 + 1]? = some (.int .u64 (t[j]).2) := by
  induction t generalizing j with
  | nil => simp at h
  | cons x r ih =>
    cases j with
    | zero => exact ⟨rfl, rfl⟩
    | succ j =>
      have := ih j (by simpa using h)
      rw [show (j + 1) * 2 = (j * 2 + 1) + 1 by omega]
      exact this
theorem stV_append (a b : List (Nat × Int)) : stV (a ++ b) = stV a ++ stV b := by simp [stV]

/-- The stores of a line, as cells that an append reads. -/
theorem row_cells {T : TypeId} {w : World} {C : Cel} (hrow : Row T w C) : ∀ a, slot C.ad = some a → ∀ j u, (stV C.l.t)[j]? = some u → w.cell? (a.add j) = some u := by
  intro a ha j u hu
  rcases hrow with ⟨h, _⟩ | ⟨g, off, cur, h1, h2, h3, h4, h5, h6⟩
  · simp [h, slot] at ha
  · simp [h1, slot] at ha
    subst ha
    have hj : j < C.l.t.length * 2 := by
      rw [← stV_len]
      rcases Nat.lt_or_ge j (stV C.l.t).length with h' | h'
      · exact h'
      · rw [List.getElem?_eq_none h'] at hu; simp at hu
    rw [Addr.add_mid, cell_of_block h2]
    obtain ⟨p, hp⟩ : ∃ p, p = j / 2 := ⟨_, rfl⟩
    have hq := h6 p (by omega)
    have hr := stV_get C.l.t p (by omega)
    rcases (show j = p * 2 ∨ j = p * 2 + 1 by omega) with e | e
    · rw [e] at hu ⊢
      rw [hr.1] at hu
      rw [← hu]; exact hq.1
    · rw [e] at hu ⊢
      rw [hr.2] at hu
      rw [← hu, ← Nat.add_assoc]; exact hq.2

/-- A store more in a new block. -/
theorem row_new {T : TypeId} {w : World} {base : Nat} {v' : Value} {l : Ln} {q : Nat} {v : Int} (h : w.ownsRow base T 2 v' (l.t.length + 1) (stV l.t ++ [.int .i64 (q : Int), .int .u64 v])) :
    ∃ g o cap, v' = .slice (some ⟨g, o, none⟩) (l.t.length + 1) cap ∧ base ≤ g ∧ Row T w ⟨l.store q v, some (g, o), cap⟩ := by
  rcases h.2 with ⟨_, h'⟩ | ⟨g, cap, cur, rfl, hb, hg, hnc, hcm, hcs, htake⟩
  · omega
  · refine ⟨g, 0, cap, rfl, hb, Or.inr ⟨g, 0, cur, rfl, hg, ?_, ?_, ?_, ?_⟩⟩
    · simp only [Nat.zero_add]; omega
    · simpa [Ln.store] using hnc
    · unfold maxLen at hcm; omega
    · intro j hj
      have e : stV (l.store q v).t = stV l.t ++ [.int .i64 (q : Int), .int .u64 v] := by simp [Ln.store, stV]
      have hr := stV_get (l.store q v).t j hj
      rw [e] at hr
      have hl : (l.store q v).t.length = l.t.length + 1 := by simp [Ln.store]
      have hj' : j < (l.store q v).t.length := hj
      have h1 := h.cellAt (j * 2) (by omega)
      have h2 := h.cellAt (j * 2 + 1) (by omega)
      rw [cell_of_block hg] at h1 h2
      rw [Nat.zero_add]
      exact ⟨h1.trans hr.1, h2.trans hr.2⟩

theorem info_store : (Try.prog.info? 106).map (fun i => (i.zero, i.size, i.bytes)) = some (some (.agg #[.int .i64 0, .int .u64 0]), 2, 16) := by kernel_rfl

/-- The lines behind a store to line k. -/
theorem put_store (cs : Nat → Cel) (k q : Nat) (hq : q < 8) (v : Int) (ad : Option (Nat × Nat)) (cap : Nat) (i : Nat) :
    upd (upd (encF cs) (k * 25 + 16) (.slice (slot ad) ((cs k).l.t.length + 1) cap)) (k * 25 + 8 + q) (.int .u64 v) i = putC (encF cs) (k * 25) ⟨(cs k).l.store q v, ad, cap⟩ i := by
  unfold putC
  by_cases h1 : i = k * 25 + 8 + q
  · subst h1
    rw [upd_same, if_pos (by omega), show k * 25 + 8 + q - k * 25 = 8 + q by omega]
    simp [encAt, show ¬ (8 + q < 8) by omega, show 8 + q < 16 by omega, Ln.store_has, upd]
  · rw [upd_other _ _ _ _ h1]
    by_cases h2 : i = k * 25 + 16
    · subst h2
      rw [upd_same, if_pos (by omega), show k * 25 + 16 - k * 25 = 16 by omega]
      simp [encAt, Ln.store]
    · rw [upd_other _ _ _ _ h2]
      by_cases h3 : k * 25 ≤ i ∧ i < k * 25 + 25
      · rw [if_pos h3]
        obtain ⟨j, rfl⟩ : ∃ j, i = k * 25 + j := ⟨i - k * 25, by omega⟩
        rw [encF_at _ _ _ (by omega), show k * 25 + j - k * 25 = j by omega]
        unfold encAt
        by_cases h4 : j < 8
        · simp [h4, Ln.store]
        · by_cases h5 : j < 16
          · rw [if_neg h4, if_neg h4, if_pos h5, if_pos h5, Ln.store_has, upd_other _ _ _ _ (by omega)]
          · rw [if_neg h4, if_neg h4, if_neg h5, if_neg h5, if_neg (by omega), if_neg (by omega)]; rfl
      · rw [if_neg h3]

theorem store_end {w Y : World} {F : Nat → Prop} {b c : Nat} {A : Mm} {cs : Nat → Cel} (h : Rep w F b A c cs) (k q : Nat) (hk : k < A.n) (hq : q < 8) (v : Int) (g o cap : Nat)
    (hb : Blk Y c (A.n * 25) 60 (upd (encF cs) (k * 25 + 16) (.slice (slot (some (g, o))) ((cs k).l.t.length + 1) cap))) (hK : Keeps (fun x => x = c ∨ (cs k).blk = some x) w Y)
    (hr : Row 106 Y ⟨(A.l k).store q v, some (g, o), cap⟩) (hg : ∀ x, some g = some x → (cs k).blk = some x ∨ w.heap.size ≤ x) :
    ∃ F' cs', Rep (Y.setCell ⟨c, k * 25 + 8 + q, none⟩ (.int .u64 v)).drew F' b ⟨A.n, upd A.l k ((A.l k).store q v), A.on, A.fuse, A.steps⟩ c cs' ∧ Keeps F w (Y.setCell ⟨c, k * 25 + 8 + q, none⟩ (.int .u64 v)).drew ∧ Grew F w F' := by
  have hgc : g ≠ c := by
    rcases hg g rfl with e | e
    · exact (h.ap k hk g e).2.1
    · have := h.lt c h.fc; omega
  have hKZ : Keeps (fun x => x = c ∨ (cs k).blk = some x) w (Y.setCell ⟨c, k * 25 + 8 + q, none⟩ (.int .u64 v)).drew :=
    (Keeps.setCell (F := fun x => x = c ∨ (cs k).blk = some x) (p := ⟨c, k * 25 + 8 + q, none⟩) hK (Or.inl rfl) _).drew
  refine ⟨_, _, h.line k hk ⟨(A.l k).store q v, some (g, o), cap⟩ hKZ (fun x hx => hx) ?_ ?_ (fun x hx => hg x hx), hKZ.mono fun x _ hx => ?_, fun x hx => ?_⟩
  · refine ((hb.set (k * 25 + 8 + q) (.int .u64 v)).drew).ext fun i _ => ?_
    rw [put_store cs k q hq v (some (g, o)) cap i, h.ln k]
  · exact hr.keeps (F := (· = c)) (Keeps.setCell (F := (· = c)) (p := ⟨c, k * 25 + 8 + q, none⟩) (Keeps.refl _ _) rfl _).drew fun x hx e => by simp [Cel.blk] at hx; exact hgc (hx.trans e)
  · rcases hx with rfl | hx
    · exact h.fc
    · exact (h.ap k hk x hx).2.2
  · rcases hx with hx | hx
    · exact Or.inl hx
    · rcases hg x hx with e | e
      · exact Or.inl (h.ap k hk x e).2.2
      · exact Or.inr e

theorem Keeps.cellOf {F : Nat → Prop} {w w' : World} (h : Keeps F w w') {b o : Nat} {v : Value} (hc : w.cell? ⟨b, o, none⟩ = some v) (hF : ¬ F b) : w'.cell? ⟨b, o, none⟩ = some v := by
  have hb : b < w.heap.size := World.block_lt_of_cell? w _ hc
  rw [World.cell?_of_block (w := w) (h.block b hb hF)]; exact hc
theorem new_two (w : World) (q : Nat) (v : Int) : ∀ j u, ([.int .i64 (q : Int), .int .u64 v] : List Value)[j]? = some u → (w.alloc (.cells #[.int .i64 (q : Int), .int .u64 v] 106)).drew.drew.cell? ((⟨w.heap.size, 0, none⟩ : Addr).add j) = some u := by
  intro j u hj
  rw [Addr.add_mid]
  show (w.alloc _).cell? _ = _
  rw [cell_of_block (heap_new w _)]
  match j, hj with
  | 0, hj => simpa using hj
  | 1, hj => simpa using hj
theorem two_one (q : Nat) (v : Int) : ∀ u ∈ ([.int .i64 (q : Int), .int .u64 v] : List Value), u.oneCell' = true := by
  intro u hu
  simp at hu
  rcases hu with rfl | rfl <;> rfl

end Go.Proofs.Ytnjicfnigfkppab
