
/-
  A memory of nvm in the program's memory, whole; what turns one line, or its head, leaves it one.
-/
import Derived.Test.YtnjicfnigfkppabNSettle
namespace Go.Proofs.Ytnjicfnigfkppab
open Go.ChangeShapes Go.WideShapes Go.ChangeAt Go.RowKit Go.Joins

def headOf (A : Mm) (c K : Nat) : Array Value := #[.slice (some ⟨c, 0, none⟩) A.n K, .bool A.on, .int .i64 A.fuse, .int .i64 (A.steps : Int)]
structure Rep (w : World) (F : Nat → Prop) (b : Nat) (A : Mm) (c : Nat) (cs : Nat → Cel) : Prop where
  hd : ∃ K, w.heap[b]? = some (.cells (headOf A c K) 56 (0, 0))
  bl : Blk w c (A.n * 25) 60 (encF cs)
  ln : ∀ i, (cs i).l = A.l i
  row : ∀ i, i < A.n → Row 106 w (cs i)
  bc : b ≠ c
  ap : ∀ i, i < A.n → ∀ g, (cs i).blk = some g → g ≠ b ∧ g ≠ c ∧ F g
  dj : ∀ i j, i < A.n → j < A.n → i ≠ j → ∀ g, (cs i).blk = some g → (cs j).blk ≠ some g
  fb : F b
  fc : F c
  lt : ∀ k, F k → k < w.heap.size
/-- Behind a call: it returned v; the memory at b is A', what it is not made of is as it was. -/
def Went (F : Nat → Prop) (w : World) (b c : Nat) (A' : Mm) (v : Value) (e : Ending) (w' : World) : Prop :=
  e = .returned v ∧ ∃ F' cs', Rep w' F' b A' c cs' ∧ Keeps F w w' ∧ Grew F w F'
def Is (w : World) (F : Nat → Prop) (b : Nat) (A : Mm) : Prop := ∃ c cs, Rep w F b A c cs

/-- Behind what turns no block of it. -/
theorem Rep.keeps {w w' : World} {F G : Nat → Prop} {b c : Nat} {A : Mm} {cs : Nat → Cel} (h : Rep w F b A c cs) (hK : Keeps G w w') (hG : ∀ x, F x → ¬ G x) : Rep w' F b A c cs :=
  ⟨by rw [hK.block b (h.lt b h.fb) (hG b h.fb)]; exact h.hd, h.bl.keeps hK (hG c h.fc), h.ln, fun i hi => (h.row i hi).keeps hK fun g hg => hG g (h.ap i hi g hg).2.2, h.bc, h.ap, h.dj, h.fb, h.fc, fun k hk => Nat.lt_of_lt_of_le (h.lt k hk) hK.size⟩
theorem Rep.alloc {w : World} {F : Nat → Prop} {b c : Nat} {A : Mm} {cs : Nat → Cel} (h : Rep w F b A c cs) (o : Obj) : Rep (w.alloc o) F b A c cs :=
  h.keeps (G := fun _ => False) ((Keeps.refl _ _).alloc _) fun _ _ => id
theorem Rep.drew {w : World} {F : Nat → Prop} {b c : Nat} {A : Mm} {cs : Nat → Cel} (h : Rep w F b A c cs) : Rep w.drew F b A c cs :=
  h.keeps (G := fun _ => False) (Keeps.refl _ _).drew fun _ _ => id
theorem Rep.more {w : World} {F G : Nat → Prop} {b c : Nat} {A : Mm} {cs : Nat → Cel} (h : Rep w F b A c cs) (hFG : ∀ k, F k → G k) (hlt : ∀ k, G k → k < w.heap.size) : Rep w G b A c cs :=
  ⟨h.hd, h.bl, h.ln, h.row, h.bc, fun i hi g hg => ⟨(h.ap i hi g hg).1, (h.ap i hi g hg).2.1, hFG g (h.ap i hi g hg).2.2⟩, h.dj, hFG b h.fb, hFG c h.fc, hlt⟩

theorem Row.lt {T : TypeId} {w : World} {C : Cel} (h : Row T w C) : ∀ g, C.blk = some g → g < w.heap.size := fun g hg => by
  rcases h with ⟨h, _⟩ | ⟨g', off, cur, h1, h2, _⟩
  · simp [Cel.blk, h] at hg
  · simp [Cel.blk, h1] at hg
    subst hg
    exact lt_of_block h2

/-- One line is another one, its stores where they were or in a new block. -/
theorem Rep.line {w w' : World} {F G : Nat → Prop} {b c : Nat} {A : Mm} {cs : Nat → Cel} (h : Rep w F b A c cs) (k : Nat) (hk : k < A.n) (C' : Cel) (hK : Keeps G w w') (hG : ∀ x, G x → x = c ∨ (cs k).blk = some x)
    (hbl : Blk w' c (A.n * 25) 60 (putC (encF cs) (k * 25) C')) (hrow : Row 106 w' C') (hblk : ∀ g, C'.blk = some g → (cs k).blk = some g ∨ w.heap.size ≤ g) :
    Rep w' (fun x => F x ∨ C'.blk = some x) b ⟨A.n, upd A.l k C'.l, A.on, A.fuse, A.steps⟩ c (upd cs k C') := by
  have hGb : ¬ G b := fun hg => (hG b hg).elim h.bc (fun e => (h.ap k hk b e).1 rfl)
  have hb := h.lt b h.fb
  have hc := h.lt c h.fc
  refine ⟨?_, ?_, ?_, ?_, h.bc, ?_, ?_, Or.inl h.fb, Or.inl h.fc, ?_⟩
  · rw [hK.block b hb hGb]; exact h.hd
  · rw [← putC_encF]; exact hbl
  · intro i
    show (upd cs k C' i).l = upd A.l k C'.l i
    by_cases hi : i = k
    · subst hi; rw [upd_same, upd_same]
    · rw [upd_other _ _ _ _ hi, upd_other _ _ _ _ hi]; exact h.ln i
  · intro i hi
    by_cases hik : i = k
    · subst hik; rw [upd_same]; exact hrow
    · rw [upd_other _ _ _ _ hik]
      exact (h.row i hi).keeps hK fun g hg hGg => (hG g hGg).elim (h.ap i hi g hg).2.1 (h.dj i k hi hk hik g hg)
  · intro i hi g hg
    by_cases hik : i = k
    · subst hik
      rw [upd_same] at hg
      rcases hblk g hg with h' | h'
      · exact ⟨(h.ap i hi g h').1, (h.ap i hi g h').2.1, Or.inr hg⟩
      · exact ⟨by omega, by omega, Or.inr hg⟩
    · rw [upd_other _ _ _ _ hik] at hg
      exact ⟨(h.ap i hi g hg).1, (h.ap i hi g hg).2.1, Or.inl (h.ap i hi g hg).2.2⟩
  · intro i j hi hj hij g hg hg'
    by_cases hik : i = k
    · subst hik
      rw [upd_same] at hg
      rw [upd_other _ _ _ _ (Ne.symm hij)] at hg'
      rcases hblk g hg with h' | h'
      · exact h.dj i j hi hj hij g h' hg'
      · have := h.lt g (h.ap j hj g hg').2.2; omega
    · rw [upd_other _ _ _ _ hik] at hg
      by_cases hjk : j = k
      · subst hjk
        rw [upd_same] at hg'
        rcases hblk g hg' with h' | h'
        · exact h.dj i j hi hj hij g hg h'
        · have := h.lt g (h.ap i hi g hg).2.2; omega
      · rw [upd_other _ _ _ _ hjk] at hg'
        exact h.dj i j hi hj hij g hg hg'
  · intro x hx
    rcases hx with hx | hx
    · exact Nat.lt_of_lt_of_le (h.lt x hx) hK.size
    · exact hrow.lt x hx

/-- Its head is another one. -/
theorem Rep.head {w w' : World} {F : Nat → Prop} {b c : Nat} {A : Mm} {cs : Nat → Cel} (h : Rep w F b A c cs) (hK : Keeps (· = b) w w') (on : Bool) (fuse : Int) (steps : Nat)
    (hd : ∃ K, w'.heap[b]? = some (.cells (headOf ⟨A.n, A.l, on, fuse, steps⟩ c K) 56 (0, 0))) : Rep w' F b ⟨A.n, A.l, on, fuse, steps⟩ c cs :=
  ⟨hd, h.bl.keeps hK (Ne.symm h.bc), h.ln, fun i hi => (h.row i hi).keeps hK fun g hg => (h.ap i hi g hg).1, h.bc, h.ap, h.dj, h.fb, h.fc, fun k hk => Nat.lt_of_lt_of_le (h.lt k hk) hK.size⟩

theorem Row.settle {T : TypeId} {w : World} {C : Cel} (h : Row T w C) (n : Nat) (hn : n ≤ C.l.t.length) : Row T w (C.settle n) := by
  rcases h with ⟨h1, h2, h3⟩ | ⟨g, off, cur, h1, h2, h3, h4, h5, h6⟩
  · rw [h3] at hn
    obtain rfl : n = 0 := by simpa using hn
    rw [Cel.settle_zero]; exact Or.inl ⟨h1, h2, h3⟩
  · have hlen : (C.settle n).l.t.length = C.l.t.length - n := by simp [Cel.settle, Ln.settle]
    by_cases hc : C.cap = n
    · refine Or.inr ⟨g, off, cur, by simp [Cel.settle, hc, h1], h2, by simp [Cel.settle, hc]; omega, by rw [hlen]; simp [Cel.settle]; omega, by simp [Cel.settle]; omega, fun j hj => ?_⟩
      rw [hlen] at hj; omega
    · refine Or.inr ⟨g, off + n * 2, cur, by simp [Cel.settle, hc, h1], h2, by simp [Cel.settle]; omega, by rw [hlen]; simp [Cel.settle]; omega, by simp [Cel.settle]; omega, fun j hj => ?_⟩
      have hj' : n + j < C.l.t.length := by rw [hlen] at hj; omega
      have := h6 (n + j) hj'
      rw [show off + n * 2 + j * 2 = off + (n + j) * 2 by omega]
      simpa [Cel.settle, Ln.settle] using this
theorem Cel.settle_blk (C : Cel) (n : Nat) : (C.settle n).blk = C.blk := by
  unfold Cel.settle Cel.blk
  simp only
  split
  · rfl
  · cases C.ad <;> rfl

/-! ### What the walk reads of its head -/
theorem Rep.c0 {w : World} {F : Nat → Prop} {b c : Nat} {A : Mm} {cs : Nat → Cel} (h : Rep w F b A c cs) : ∃ K, w.cell? ⟨b, 0, none⟩ = some (.slice (some ⟨c, 0, none⟩) A.n K) := by obtain ⟨K, hd⟩ := h.hd; exact ⟨K, by rw [cell_of_block hd]; rfl⟩
theorem Rep.c1 {w : World} {F : Nat → Prop} {b c : Nat} {A : Mm} {cs : Nat → Cel} (h : Rep w F b A c cs) : w.cell? ⟨b, 1, none⟩ = some (.bool A.on) := by obtain ⟨K, hd⟩ := h.hd; rw [cell_of_block hd]; rfl
theorem Rep.c2 {w : World} {F : Nat → Prop} {b c : Nat} {A : Mm} {cs : Nat → Cel} (h : Rep w F b A c cs) : w.cell? ⟨b, 2, none⟩ = some (.int .i64 A.fuse) := by obtain ⟨K, hd⟩ := h.hd; rw [cell_of_block hd]; rfl
theorem Rep.c3 {w : World} {F : Nat → Prop} {b c : Nat} {A : Mm} {cs : Nat → Cel} (h : Rep w F b A c cs) : w.cell? ⟨b, 3, none⟩ = some (.int .i64 (A.steps : Int)) := by obtain ⟨K, hd⟩ := h.hd; rw [cell_of_block hd]; rfl
theorem Rep.fr {w : World} {F : Nat → Prop} {b c : Nat} {A : Mm} {cs : Nat → Cel} (h : Rep w F b A c cs) (i : Nat) : w.frozen? ⟨b, i, none⟩ = false := by obtain ⟨K, hd⟩ := h.hd; exact unfrozen_of_block hd i
theorem Rep.cel {w : World} {F : Nat → Prop} {b c : Nat} {A : Mm} {cs : Nat → Cel} (h : Rep w F b A c cs) (k : Nat) (hk : k < A.n) (j : Nat) (hj : j < 25) : w.cell? ⟨c, k * 25 + j, none⟩ = some (encAt (cs k) j) := by
  rw [h.bl.cell _ (by omega), encF_at _ _ _ hj]
theorem Rep.lenc {w : World} {F : Nat → Prop} {b c : Nat} {A : Mm} {cs : Nat → Cel} (h : Rep w F b A c cs) (k : Nat) (hk : k < A.n) : w.cell? ⟨c, k * 25 + 16, none⟩ = some (.slice (slot (cs k).ad) (A.l k).t.length (cs k).cap) := by
  rw [h.cel k hk 16 (by omega), ← h.ln k]; rfl
theorem Rep.hasR {w : World} {F : Nat → Prop} {b c : Nat} {A : Mm} {cs : Nat → Cel} (h : Rep w F b A c cs) (k : Nat) (hk : k < A.n) : w.rangeAt c (k * 25 + 8) ((List.range 8).map fun j => .int .u64 ((A.l k).has j)) :=
  h.bl.range _ 8 (by omega) _ fun j hj => by
    rw [Nat.add_assoc, encF_at _ _ _ (by omega), ← h.ln k]
    simp [encAt, show ¬ (8 + j < 8) by omega, show 8 + j < 16 by omega]
theorem Rep.sureR {w : World} {F : Nat → Prop} {b c : Nat} {A : Mm} {cs : Nat → Cel} (h : Rep w F b A c cs) (k : Nat) (hk : k < A.n) : w.rangeAt c (k * 25) ((List.range 8).map fun j => .int .u64 ((A.l k).s j)) :=
  h.bl.range _ 8 (by omega) _ fun j hj => by
    rw [encF_at _ _ _ (by omega), ← h.ln k]
    simp [encAt, hj]

end Go.Proofs.Ytnjicfnigfkppab
