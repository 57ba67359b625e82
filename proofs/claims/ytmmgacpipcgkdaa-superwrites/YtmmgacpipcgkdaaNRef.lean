
/-
  How the document's memory (steadfastref03.Memory) lies in the program's memory: its own block, its lines, its row of rows of stores, a block for each line that has one. The same Mm says what it does: the cores that have flushed a store are those whose count is above its place.
-/
import Derived.Test.YtmmgacpipcgkdaaNTotal
namespace Go.Proofs.Ytmmgacpipcgkdaa
open Go.ChangeShapes Go.WideShapes Go.ChangeAt Go.RowKit Go.Joins
set_option maxRecDepth 10000
set_option linter.unusedVariables false
set_option linter.unusedSimpArgs false

/-- A store as the document keeps it: ten cells. -/
def doneAt (l : Ln) (j c : Nat) : Value := if c = 0 then .int .i64 ((l.t.getD j (0, 0)).1 : Int) else if c = 1 then .int .u64 (l.t.getD j (0, 0)).2 else .bool (decide (j < l.f (c - 2)))
def slot0 (ad : Option Nat) : Option Addr := ad.map fun g => ⟨g, 0, none⟩
def RRow (w : World) (l : Ln) (ad : Option Nat) (cap : Nat) : Prop :=
  (ad = none ∧ cap = 0 ∧ l.t = []) ∨ ∃ g N f, ad = some g ∧ Blk w g N 95 f ∧ l.t.length * 10 ≤ N ∧ l.t.length ≤ cap ∧ cap ≤ 9223372036854775807 ∧ ∀ j c, j < l.t.length → c < 10 → f (j * 10 + c) = doneAt l j c
theorem RRow.keeps {F : Nat → Prop} {w w' : World} {l : Ln} {ad : Option Nat} {cap : Nat} (h : RRow w l ad cap) (hk : Keeps F w w') (hc : ∀ g, ad = some g → ¬ F g) : RRow w' l ad cap := by
  rcases h with h | ⟨g, N, f, h1, h2, h3⟩
  · exact Or.inl h
  · exact Or.inr ⟨g, N, f, h1, h2.keeps hk (hc g h1), h3⟩
theorem RRow.lt {w : World} {l : Ln} {ad : Option Nat} {cap : Nat} (h : RRow w l ad cap) : ∀ g, ad = some g → g < w.heap.size := fun g hg => by
  rcases h with ⟨h, _⟩ | ⟨g', N, f, h1, h2, _⟩
  · rw [h] at hg; simp at hg
  · rw [h1] at hg; cases hg; exact h2.lt

def rhead (A : Mm) (gs cs gl : Nat) : Array Value := #[.slice (some ⟨gs, 0, none⟩) A.n cs, .slice (some ⟨gl, 0, none⟩) A.n A.n, .bool (!A.on), .int .i64 A.fuse, .int .i64 (A.steps : Int)]
def rrowF (A : Mm) (ads : Nat → Option Nat) (caps : Nat → Nat) : Nat → Value := fun i => .slice (slot0 (ads i)) (A.l i).t.length (caps i)
structure RRep (w : World) (F : Nat → Prop) (b : Nat) (A : Mm) (gs cs gl : Nat) (ads : Nat → Option Nat) (caps : Nat → Nat) : Prop where
  hd : w.heap[b]? = some (.cells (rhead A gs cs gl) 57 (0, 0))
  sb : ∃ N f, Blk w gs N 26 f ∧ A.n * 8 ≤ N ∧ A.n ≤ cs ∧ ∀ i, i < A.n * 8 → f i = .int .u64 ((A.l (i / 8)).s (i % 8))
  lb : Blk w gl A.n 84 (rrowF A ads caps)
  row : ∀ i, i < A.n → RRow w (A.l i) (ads i) (caps i)
  d1 : b ≠ gs
  d2 : b ≠ gl
  d3 : gs ≠ gl
  ap : ∀ i, i < A.n → ∀ g, ads i = some g → g ≠ b ∧ g ≠ gs ∧ g ≠ gl ∧ F g
  dj : ∀ i j, i < A.n → j < A.n → i ≠ j → ∀ g, ads i = some g → ads j ≠ some g
  fb : F b
  fs : F gs
  fl : F gl
  lt : ∀ k, F k → k < w.heap.size
def RWent (F : Nat → Prop) (w : World) (b gs cs gl : Nat) (A' : Mm) (v : Value) (e : Ending) (w' : World) : Prop :=
  e = .returned v ∧ ∃ F' ads caps, RRep w' F' b A' gs cs gl ads caps ∧ Keeps F w w' ∧ Grew F w F'

theorem RRep.keeps {w w' : World} {F G : Nat → Prop} {b gs cs gl : Nat} {A : Mm} {ads : Nat → Option Nat} {caps : Nat → Nat} (h : RRep w F b A gs cs gl ads caps) (hK : Keeps G w w') (hG : ∀ x, F x → ¬ G x) : RRep w' F b A gs cs gl ads caps := by
  obtain ⟨N, f, h1, h2⟩ := h.sb
  exact ⟨by rw [hK.block b (h.lt b h.fb) (hG b h.fb)]; exact h.hd, ⟨N, f, h1.keeps hK (hG gs h.fs), h2⟩, h.lb.keeps hK (hG gl h.fl), fun i hi => (h.row i hi).keeps hK fun g hg => hG g (h.ap i hi g hg).2.2.2, h.d1, h.d2, h.d3, h.ap, h.dj, h.fb, h.fs, h.fl, fun k hk => Nat.lt_of_lt_of_le (h.lt k hk) hK.size⟩
theorem RRep.alloc {w : World} {F : Nat → Prop} {b gs cs gl : Nat} {A : Mm} {ads : Nat → Option Nat} {caps : Nat → Nat} (h : RRep w F b A gs cs gl ads caps) (o : Obj) : RRep (w.alloc o) F b A gs cs gl ads caps :=
  h.keeps (G := fun _ => False) ((Keeps.refl _ _).alloc _) fun _ _ => id
theorem RRep.drew {w : World} {F : Nat → Prop} {b gs cs gl : Nat} {A : Mm} {ads : Nat → Option Nat} {caps : Nat → Nat} (h : RRep w F b A gs cs gl ads caps) : RRep w.drew F b A gs cs gl ads caps :=
  h.keeps (G := fun _ => False) (Keeps.refl _ _).drew fun _ _ => id
theorem RRep.fresh {w : World} {F : Nat → Prop} {b gs cs gl : Nat} {A : Mm} {ads : Nat → Option Nat} {caps : Nat → Nat} (h : RRep w F b A gs cs gl ads caps) (j : Nat) : ¬ F (w.heap.size + j) := fun hf => by have := h.lt _ hf; omega

/-- Its head is another one. -/
theorem RRep.head {w w' : World} {F : Nat → Prop} {b gs cs gl : Nat} {A : Mm} {ads : Nat → Option Nat} {caps : Nat → Nat} (h : RRep w F b A gs cs gl ads caps) (hK : Keeps (· = b) w w') (on : Bool) (fuse : Int) (steps : Nat)
    (hd : w'.heap[b]? = some (.cells (rhead ⟨A.n, A.l, on, fuse, steps⟩ gs cs gl) 57 (0, 0))) : RRep w' F b ⟨A.n, A.l, on, fuse, steps⟩ gs cs gl ads caps := by
  obtain ⟨N, f, h1, h2⟩ := h.sb
  exact ⟨hd, ⟨N, f, h1.keeps hK (Ne.symm h.d1), h2⟩, h.lb.keeps hK (Ne.symm h.d2), fun i hi => (h.row i hi).keeps hK fun g hg => (h.ap i hi g hg).1, h.d1, h.d2, h.d3, h.ap, h.dj, h.fb, h.fs, h.fl, fun k hk => Nat.lt_of_lt_of_le (h.lt k hk) hK.size⟩

/-- One line is another one. -/
theorem RRep.line {w w' : World} {F G : Nat → Prop} {b gs cs gl : Nat} {A : Mm} {ads : Nat → Option Nat} {caps : Nat → Nat} (h : RRep w F b A gs cs gl ads caps) (k : Nat) (hk : k < A.n) (l' : Ln) (ad' : Option Nat) (cap' : Nat)
    (hK : Keeps G w w') (hG : ∀ x, G x → x = gs ∨ x = gl ∨ ads k = some x)
    (hsb : ∃ N f, Blk w' gs N 26 f ∧ A.n * 8 ≤ N ∧ ∀ i, i < A.n * 8 → f i = .int .u64 ((upd A.l k l' (i / 8)).s (i % 8)))
    (hlb : Blk w' gl A.n 84 (upd (rrowF A ads caps) k (.slice (slot0 ad') l'.t.length cap')))
    (hrow : RRow w' l' ad' cap') (hblk : ∀ g, ad' = some g → ads k = some g ∨ w.heap.size ≤ g) :
    RRep w' (fun x => F x ∨ ad' = some x) b ⟨A.n, upd A.l k l', A.on, A.fuse, A.steps⟩ gs cs gl (upd ads k ad') (upd caps k cap') := by
  have hb := h.lt b h.fb
  have hs := h.lt gs h.fs
  have hl := h.lt gl h.fl
  have hGb : ¬ G b := fun hg => by
    rcases hG b hg with e | e | e
    · exact h.d1 e
    · exact h.d2 e
    · exact (h.ap k hk b e).1 rfl
  obtain ⟨N, f, b1, b2, b3⟩ := hsb
  obtain ⟨_, _, _, _, hcs, _⟩ := h.sb
  refine ⟨?_, ⟨N, f, b1, b2, hcs, b3⟩, ?_, ?_, h.d1, h.d2, h.d3, ?_, ?_, Or.inl h.fb, Or.inl h.fs, Or.inl h.fl, ?_⟩
  · rw [hK.block b hb hGb]; exact h.hd
  · refine hlb.ext fun i _ => ?_
    unfold rrowF
    by_cases hi : i = k
    · subst hi; simp only [upd_same]
    · simp only [upd_other _ _ _ _ hi]
  · intro i hi
    show RRow w' (upd A.l k l' i) (upd ads k ad' i) (upd caps k cap' i)
    by_cases hik : i = k
    · subst hik; simp only [upd_same]; exact hrow
    · simp only [upd_other _ _ _ _ hik]
      exact (h.row i hi).keeps hK fun g hg hGg => by
        rcases hG g hGg with e | e | e
        · exact (h.ap i hi g hg).2.1 e
        · exact (h.ap i hi g hg).2.2.1 e
        · exact h.dj i k hi hk hik g hg e
  · intro i hi g hg
    by_cases hik : i = k
    · subst hik
      rw [upd_same] at hg
      rcases hblk g hg with h' | h'
      · exact ⟨(h.ap i hi g h').1, (h.ap i hi g h').2.1, (h.ap i hi g h').2.2.1, Or.inr hg⟩
      · exact ⟨by omega, by omega, by omega, Or.inr hg⟩
    · rw [upd_other _ _ _ _ hik] at hg
      exact ⟨(h.ap i hi g hg).1, (h.ap i hi g hg).2.1, (h.ap i hi g hg).2.2.1, Or.inl (h.ap i hi g hg).2.2.2⟩
  · intro i j hi hj hij g hg hg'
    by_cases hik : i = k
    · subst hik
      rw [upd_same] at hg
      rw [upd_other _ _ _ _ (Ne.symm hij)] at hg'
      rcases hblk g hg with h' | h'
      · exact h.dj i j hi hj hij g h' hg'
      · have := h.lt g (h.ap j hj g hg').2.2.2; omega
    · rw [upd_other _ _ _ _ hik] at hg
      by_cases hjk : j = k
      · subst hjk
        rw [upd_same] at hg'
        rcases hblk g hg' with h' | h'
        · exact h.dj i j hi hj hij g hg h'
        · have := h.lt g (h.ap i hi g hg).2.2.2; omega
      · rw [upd_other _ _ _ _ hjk] at hg'
        exact h.dj i j hi hj hij g hg hg'
  · intro x hx
    rcases hx with hx | hx
    · exact Nat.lt_of_lt_of_le (h.lt x hx) hK.size
    · exact hrow.lt x hx

/-! ### What the walk reads -/
section
variable {w : World} {F : Nat → Prop} {b gs cs gl : Nat} {A : Mm} {ads : Nat → Option Nat} {caps : Nat → Nat}
theorem RRep.c0 (h : RRep w F b A gs cs gl ads caps) : w.cell? ⟨b, 0, none⟩ = some (.slice (some ⟨gs, 0, none⟩) A.n cs) := by rw [cell_of_block h.hd]; rfl
theorem RRep.c1 (h : RRep w F b A gs cs gl ads caps) : w.cell? ⟨b, 1, none⟩ = some (.slice (some ⟨gl, 0, none⟩) A.n A.n) := by rw [cell_of_block h.hd]; rfl
theorem RRep.c2 (h : RRep w F b A gs cs gl ads caps) : w.cell? ⟨b, 2, none⟩ = some (.bool (!A.on)) := by rw [cell_of_block h.hd]; rfl
theorem RRep.c3 (h : RRep w F b A gs cs gl ads caps) : w.cell? ⟨b, 3, none⟩ = some (.int .i64 A.fuse) := by rw [cell_of_block h.hd]; rfl
theorem RRep.c4 (h : RRep w F b A gs cs gl ads caps) : w.cell? ⟨b, 4, none⟩ = some (.int .i64 (A.steps : Int)) := by rw [cell_of_block h.hd]; rfl
theorem RRep.fr (h : RRep w F b A gs cs gl ads caps) (i : Nat) : w.frozen? ⟨b, i, none⟩ = false := unfrozen_of_block h.hd i
theorem RRep.lc (h : RRep w F b A gs cs gl ads caps) (k : Nat) (hk : k < A.n) : w.cell? ⟨gl, k, none⟩ = some (.slice (slot0 (ads k)) (A.l k).t.length (caps k)) := h.lb.cell k hk
theorem RRep.sR (h : RRep w F b A gs cs gl ads caps) (k : Nat) (hk : k < A.n) : w.rangeAt gs (k * 8) (lnV (A.l k).s).toList := by
  obtain ⟨N, f, h1, h2, _, h3⟩ := h.sb
  exact h1.range (k * 8) 8 (by omega) (fun j => .int .u64 ((A.l k).s j)) fun j hj => by
    rw [h3 (k * 8 + j) (by omega), show (k * 8 + j) / 8 = k by omega, show (k * 8 + j) % 8 = j by omega]
end
theorem rhead_set {w : World} {b gs cs gl : Nat} {A : Mm} (hd : w.heap[b]? = some (.cells (rhead A gs cs gl) 57 (0, 0))) (i : Nat) (v : Value) (A' : Mm) (e : (rhead A gs cs gl).setIfInBounds i v = rhead A' gs cs gl) :
    (w.setCell ⟨b, i, none⟩ v).heap[b]? = some (.cells (rhead A' gs cs gl) 57 (0, 0)) := by rw [block_setCell hd, e]

end Go.Proofs.Ytmmgacpipcgkdaa
