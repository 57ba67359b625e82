import Derived.Test.YtinhnnnehhlceaaGreatPkNvm
import Derived.Laws.AppendOwnNone
import Derived.Test.YtinhnnnehhlceaaGreatNLines

/-
  How the document's memory (steadfastref03.Memory) lies in the program's memory: its own block, its lines, its row of rows of stores, a block for each line that has one. The same Mm says what it does: the cores that have flushed a store are those whose count is above its place.
-/
namespace Go.Proofs.YtinhnnnehhlceaaGreat
open Go.ChangeShapes Go.WideShapes Go.ChangeAt Go.RowKit Go.Joins
set_option maxRecDepth 10000
set_option linter.unusedVariables false
set_option linter.unusedSimpArgs false

/-- A store as the document keeps it: ten cells. -/
def doneAt (l : Ln) (j c : Nat) : Value := if c = 0 then .int .i64 ((l.t.getD j (0, 0)).1 : Int) else if c = 1 then .int .u64 (l.t.getD j (0, 0)).2 else .bool (decide (j < l.f (c - 2)))
def slot0 (ad : Option Nat) : Option Addr := ad.map fun g => ⟨g, 0, none⟩
def RRow (w : World) (l : Ln) (ad : Option Nat) (cap : Nat) : Prop :=
  (ad = none ∧ cap = 0 ∧ l.t = []) ∨ ∃ g N f, ad = some g ∧ Blk w g N 195 f ∧ l.t.length * 10 ≤ N ∧ l.t.length ≤ cap ∧ cap ≤ 9223372036854775807 ∧ ∀ j c, j < l.t.length → c < 10 → f (j * 10 + c) = doneAt l j c
theorem RRow.keeps {F : Nat → Prop} {w w' : World} {l : Ln} {ad : Option Nat} {cap : Nat} (h : RRow w l ad cap) (hk : Keeps F w w') (hc : ∀ g, ad = some g → ¬ F g) : RRow w' l ad cap := by
  rcases h with h | ⟨g, N, f, h1, h2, h3⟩
  · exact Or.inl h
  · exact Or.inr ⟨g, N, f, h1, h2.keeps hk (hc g h1), h3⟩
theorem RRow.lt {w : World} {l : Ln} {ad : Option Nat} {cap : Nat} (h : RRow w l ad cap) : ∀ g, ad = some g → g < w.heap.size := fun g hg => by
  rcases h with ⟨h, _⟩ | ⟨g', N, f, h1, h2, _⟩
  · rw [h] at hg; simp at hg
  · rw [h1] at hg; cases hg; exact h2.lt

def rhead (A : Mm) (gs cs gl : Nat) : Array Value := #[.slice (some ⟨gs, 0, none⟩) A.n cs, .slice (some ⟨gl, 0, none⟩) A.n A.n, .bool (!A.on), .int .i64 A.fuse, .int .i64 (A.steps : Int)]
def rrowF (A : Mm) (ads : Nat → Option Nat) (caps : Nat → Nat) : Nat → Value := fun i => .slice (slot0 (ads i)) (A.l i).t.length (caps i)
structure RRep (w : World) (F : Nat → Prop) (b : Nat) (A : Mm) (gs cs gl : Nat) (ads : Nat → Option Nat) (caps : Nat → Nat) : Prop where
  hd : w.heap[b]? = some (.cells (rhead A gs cs gl) 79 (0, 0))
  sb : ∃ N f, Blk w gs N 83 f ∧ A.n * 8 ≤ N ∧ A.n ≤ cs ∧ ∀ i, i < A.n * 8 → f i = .int .u64 ((A.l (i / 8)).s (i % 8))
  lb : Blk w gl A.n 185 (rrowF A ads caps)
  row : ∀ i, i < A.n → RRow w (A.l i) (ads i) (caps i)
  d1 : b ≠ gs
  d2 : b ≠ gl
  d3 : gs ≠ gl
  ap : ∀ i, i < A.n → ∀ g, ads i = some g → g ≠ b ∧ g ≠ gs ∧ g ≠ gl ∧ F g
  dj : ∀ i j, i < A.n → j < A.n → i ≠ j → ∀ g, ads i = some g → ads j ≠ some g
  fb : F b
  fs : F gs
  fl : F gl
  lt : ∀ k, F k → k < w.heap.size
def RWent (F : Nat → Prop) (w : World) (b gs cs gl : Nat) (A' : Mm) (v : Value) (e : Ending) (w' : World) : Prop :=
  e = .returned v ∧ ∃ F' ads caps, RRep w' F' b A' gs cs gl ads caps ∧ Keeps F w w' ∧ Grew F w F'

theorem RRep.keeps {w w' : World} {F G : Nat → Prop} {b gs cs gl : Nat} {A : Mm} {ads : Nat → Option Nat} {caps : Nat → Nat} (h : RRep w F b A gs cs gl ads caps) (hK : Keeps G w w') (hG : ∀ x, F x → ¬ G x) : RRep w' F b A gs cs gl ads caps := by
  obtain ⟨N, f, h1, h2⟩ := h.sb
  exact ⟨by rw [hK.block b (h.lt b h.fb) (hG b h.fb)]; exact h.hd, ⟨N, f, h1.keeps hK (hG gs h.fs), h2⟩, h.lb.keeps hK (hG gl h.fl), fun i hi => (h.row i hi).keeps hK fun g hg => hG g (h.ap i hi g hg).2.2.2, h.d1, h.d2, h.d3, h.ap, h.dj, h.fb, h.fs, h.fl, fun k hk => Nat.lt_of_lt_of_le (h.lt k hk) hK.size⟩
theorem RRep.alloc {w : World} {F : Nat → Prop} {b gs cs gl : Nat} {A : Mm} {ads : Nat → Option Nat} {caps : Nat → Nat} (h : RRep w F b A gs cs gl ads caps) (o : Obj) : RRep (w.alloc o) F b A gs cs gl ads caps :=
  h.keeps (G := fun _ => False) ((Keeps.refl _ _).alloc _) fun _ _ => id
theorem RRep.drew {w : World} {F : Nat → Prop} {b gs cs gl : Nat} {A : Mm} {ads : Nat → Option Nat} {caps : Nat → Nat} (h : RRep w F b A gs cs gl ads caps) : RRep w.drew F b A gs cs gl ads caps :=
  h.keeps (G := fun _ => False) (Keeps.refl _ _).drew fun _ _ => id
theorem RRep.fresh {w : World} {F : Nat → Prop} {b gs cs gl : Nat} {A : Mm} {ads : Nat → Option Nat} {caps : Nat → Nat} (h : RRep w F b A gs cs gl ads caps) (j : Nat) : ¬ F (w.heap.size + j) := fun hf => by have := h.lt _ hf; omega

/-- Its head is another one. -/
theorem RRep.head {w w' : World} {F : Nat → Prop} {b gs cs gl : Nat} {A : Mm} {ads : Nat → Option Nat} {caps : Nat → Nat} (h : RRep w F b A gs cs gl ads caps) (hK : Keeps (· = b) w w') (on : Bool) (fuse : Int) (steps : Nat)
    (hd : w'.heap[b]? = some (.cells (rhead ⟨A.n, A.l, on, fuse, steps⟩ gs cs gl) 79 (0, 0))) : RRep w' F b ⟨A.n, A.l, on, fuse, steps⟩ gs cs gl ads caps := by
  obtain ⟨N, f, h1, h2⟩ := h.sb
  exact ⟨hd, ⟨N, f, h1.keeps hK (Ne.symm h.d1), h2⟩, h.lb.keeps hK (Ne.symm h.d2), fun i hi => (h.row i hi).keeps hK fun g hg => (h.ap i hi g hg).1, h.d1, h.d2, h.d3, h.ap, h.dj, h.fb, h.fs, h.fl, fun k hk => Nat.lt_of_lt_of_le (h.lt k hk) hK.size⟩

/-- One line is another one. -/
theorem RRep.line {w w' : World} {F G : Nat → Prop} {b gs cs gl : Nat} {A : Mm} {ads : Nat → Option Nat} {caps : Nat → Nat} (h : RRep w F b A gs cs gl ads caps) (k : Nat) (hk : k < A.n) (l' : Ln) (ad' : Option Nat) (cap' : Nat)
    (hK : Keeps G w w') (hG : ∀ x, G x → x = gs ∨ x = gl ∨ ads k = some x)
    (hsb : ∃ N f, Blk w' gs N 83 f ∧ A.n * 8 ≤ N ∧ ∀ i, i < A.n * 8 → f i = .int .u64 ((upd A.l k l' (i / 8)).s (i % 8)))
    (hlb : Blk w' gl A.n 185 (upd (rrowF A ads caps) k (.slice (slot0 ad') l'.t.length cap')))
    (hrow : RRow w' l' ad' cap') (hblk : ∀ g, ad' = some g → ads k = some g ∨ w.heap.size ≤ g) :
    RRep w' (fun x => F x ∨ ad' = some x) b ⟨A.n, upd A.l k l', A.on, A.fuse, A.steps⟩ gs cs gl (upd ads k ad') (upd caps k cap') := by
  have hb := h.lt b h.fb
  have hs := h.lt gs h.fs
  have hl := h.lt gl h.fl
  have hGb : ¬ G b := fun hg => by
    rcases hG b hg with e | e | e
    · exact h.d1 e
    · exact h.d2 e
    · exact (h.ap k hk b e).1 rfl
  obtain ⟨N, f, b1, b2, b3⟩ := hsb
  obtain ⟨_, _, _, _, hcs, _⟩ := h.sb
  refine ⟨?_, ⟨N, f, b1, b2, hcs, b3⟩, ?_, ?_, h.d1, h.d2, h.d3, ?_, ?_, Or.inl h.fb, Or.inl h.fs, Or.inl h.fl, ?_⟩
  · rw [hK.block b hb hGb]; exact h.hd
  · refine hlb.ext fun i _ => ?_
    unfold rrowF
    by_cases hi : i = k
    · subst hi; simp only [upd_same]
    · simp only [upd_other _ _ _ _ hi]
  · intro i hi
    show RRow w' (upd A.l k l' i) (upd ads k ad' i) (upd caps k cap' i)
    by_cases hik : i = k
    · subst hik; simp only [upd_same]; exact hrow
    · simp only [upd_other _ _ _ _ hik]
      exact (h.row i hi).keeps hK fun g hg hGg => by
        rcases hG g hGg with e | e | e
        · exact (h.ap i hi g hg).2.1 e
        · exact (h.ap i hi g hg).2.2.1 e
        · exact h.dj i k hi hk hik g hg e
  · intro i hi g hg
    by_cases hik : i = k
    · subst hik
      rw [upd_same] at hg
      rcases hblk g hg with h' | h'
      · exact ⟨(h.ap i hi g h').1, (h.ap i hi g h').2.1, (h.ap i hi g h').2.2.1, Or.inr hg⟩
      · exact ⟨by omega, by omega, by omega, Or.inr hg⟩
    · rw [upd_other _ _ _ _ hik] at hg
      exact ⟨(h.ap i hi g hg).1, (h.ap i hi g hg).2.1, (h.ap i hi g hg).2.2.1, Or.inl (h.ap i hi g hg).2.2.2⟩
  · intro i j hi hj hij g hg hg'
    by_cases hik : i = k
    · subst hik
      rw [upd_same] at hg
      rw [upd_other _ _ _ _ (Ne.symm hij)] at hg'
      rcases hblk g hg with h' | h'
      · exact h.dj i j hi hj hij g h' hg'
      · have := h.lt g (h.ap j hj g hg').2.2.2; omega
    · rw [upd_other _ _ _ _ hik] at hg
      by_cases hjk : j = k
      · subst hjk
        rw [upd_same] at hg'
        rcases hblk g hg' with h' | h'
        · exact h.dj i j hi hj hij g hg h'
        · have := h.lt g (h.ap i hi g hg).2.2.2; omega
      · rw [upd_other _ _ _ _ hjk] at hg'
        exact h.dj i j hi hj hij g hg hg'
  · intro x hx
    rcases hx with hx | hx
    · exact Nat.lt_of_lt_of_le (h.lt x hx) hK.size
    · exact hrow.lt x hx

/-! ### What the walk reads -/
section
variable {w : World} {F : Nat → Prop} {b gs cs gl : Nat} {A : Mm} {ads : Nat → Option Nat} {caps : Nat → Nat}
theorem RRep.c0 (h : RRep w F b A gs cs gl ads caps) : w.cell? ⟨b, 0, none⟩ = some (.slice (some ⟨gs, 0, none⟩) A.n cs) := by rw [cell_of_block h.hd]; rfl
theorem RRep.c1 (h : RRep w F b A gs cs gl ads caps) : w.cell? ⟨b, 1, none⟩ = some (.slice (some ⟨gl, 0, none⟩) A.n A.n) := by rw [cell_of_block h.hd]; rfl
theorem RRep.c2 (h : RRep w F b A gs cs gl ads caps) : w.cell? ⟨b, 2, none⟩ = some (.bool (!A.on)) := by rw [cell_of_block h.hd]; rfl
theorem RRep.c3 (h : RRep w F b A gs cs gl ads caps) : w.cell? ⟨b, 3, none⟩ = some (.int .i64 A.fuse) := by rw [cell_of_block h.hd]; rfl
theorem RRep.c4 (h : RRep w F b A gs cs gl ads caps) : w.cell? ⟨b, 4, none⟩ = some (.int .i64 (A.steps : Int)) := by rw [cell_of_block h.hd]; rfl
theorem RRep.fr (h : RRep w F b A gs cs gl ads caps) (i : Nat) : w.frozen? ⟨b, i, none⟩ = false := unfrozen_of_block h.hd i
theorem RRep.lc (h : RRep w F b A gs cs gl ads caps) (k : Nat) (hk : k < A.n) : w.cell? ⟨gl, k, none⟩ = some (.slice (slot0 (ads k)) (A.l k).t.length (caps k)) := h.lb.cell k hk
theorem RRep.sR (h : RRep w F b A gs cs gl ads caps) (k : Nat) (hk : k < A.n) : w.rangeAt gs (k * 8) (lnV (A.l k).s).toList := by
  obtain ⟨N, f, h1, h2, _, h3⟩ := h.sb
  exact h1.range (k * 8) 8 (by omega) (fun j => .int .u64 ((A.l k).s j)) fun j hj => by
    rw [h3 (k * 8 + j) (by omega), show (k * 8 + j) / 8 = k by omega, show (k * 8 + j) % 8 = j by omega]
end
theorem rhead_set {w : World} {b gs cs gl : Nat} {A : Mm} (hd : w.heap[b]? = some (.cells (rhead A gs cs gl) 79 (0, 0))) (i : Nat) (v : Value) (A' : Mm) (e : (rhead A gs cs gl).setIfInBounds i v = rhead A' gs cs gl) :
    (w.setCell ⟨b, i, none⟩ v).heap[b]? = some (.cells (rhead A' gs cs gl) 79 (0, 0)) := by rw [block_setCell hd, e]

end Go.Proofs.YtinhnnnehhlceaaGreat


/-
  What the document's is, step, Fuse and has do.
-/
namespace Go.Proofs.YtinhnnnehhlceaaGreat
open Go.ChangeShapes Go.WideShapes Go.ChangeAt Go.RowKit Go.Joins
set_option maxRecDepth 10000
set_option linter.unusedVariables false
set_option linter.unusedSimpArgs false

section
variable {w : World} {F : Nat → Prop} {b gs cs gl : Nat} {A : Mm} {ads : Nat → Option Nat} {caps : Nat → Nat}

theorem ris_any (h : RRep w F b A gs cs gl ads caps) (z : Int) :
    Calls Tryz.prog 118 #[.pointer (some ⟨b, 0, none⟩), .int .i64 z] w fun e w' => e = .returned (.bool (decide (0 ≤ z ∧ z < A.n))) ∧ w' = w := by
  have c0 := h.c0
  clear h
  go_enter Tryz.func118, Tryz.ntmps118
  go_wp2
  all_goals go_ret
  all_goals refine ⟨nret_bool ?_, rfl⟩
  all_goals first | (refine decide_eq_decide.2 ?_; omega) | (symm; rw [decide_eq_false_iff_not]; omega) | (symm; rw [decide_eq_true_iff]; omega) | (simp; omega)

theorem rfuse_any (h : RRep w F b A gs cs gl ads caps) (z : Int) :
    Calls Tryz.prog 18 #[.pointer (some ⟨b, 0, none⟩), .int .i64 z] w (RWent F w b gs cs gl (A.fused z) (.tuple #[])) := by
  have c2 := h.c3
  have f2 := h.fr 3
  have H := hide h
  clear h
  by_cases hz : z < -1
  · go_enter Tryz.func18, Tryz.ntmps18
    go_wp2
    go_end0
    refine ⟨rfl, F, ads, caps, ?_, Keeps.setCell (F := F) (p := ⟨b, 3, none⟩) (Keeps.refl _ _) (unhide H).fb _, Grew.refl _ _⟩
    unfold Mm.fused
    rw [if_pos hz]
    exact (unhide H).head (Keeps.setCell (F := (· = b)) (p := ⟨b, 3, none⟩) (Keeps.refl _ _) rfl _) _ _ _ (rhead_set (unhide H).hd 3 _ _ rfl)
  · have hz' : -1 ≤ z := by omega
    go_enter Tryz.func18, Tryz.ntmps18
    go_wp2
    go_end0
    refine ⟨rfl, F, ads, caps, ?_, Keeps.setCell (F := F) (p := ⟨b, 3, none⟩) (Keeps.refl _ _) (unhide H).fb _, Grew.refl _ _⟩
    unfold Mm.fused
    rw [if_neg (by omega)]
    exact (unhide H).head (Keeps.setCell (F := (· = b)) (p := ⟨b, 3, none⟩) (Keeps.refl _ _) rfl _) _ _ _ (rhead_set (unhide H).hd 3 _ _ rfl)

/-- A step that is done leaves the lines. -/
theorem rstep_any (h : RRep w F b A gs cs gl ads caps) (hs : A.steps ≤ 1000000) (hf0 : -1 ≤ A.fuse) (hf1 : A.fuse ≤ 9223372036854775807) :
    Calls Tryz.prog 129 #[.pointer (some ⟨b, 0, none⟩)] w fun e w' => e = .returned (.int .i64 A.err) ∧ RRep w' F b (A.step A.l) gs cs gl ads caps ∧ Keeps F w w' := by
  have c2 := h.c2
  have c3 := h.c3
  have c4 := h.c4
  have f2 := h.fr 2
  have f3 := h.fr 3
  have f4 := h.fr 4
  have H := hide h
  clear h
  by_cases hon : A.on = true
  · rw [hon] at c2
    by_cases hz : A.fuse = 0
    · have hm : A.may = false := by simp [Mm.may, hz]
      have HE : Hid (A.err = 4) := by show _ = _; unfold Mm.err; rw [hm]; rfl
      have HS : Hid (A.step A.l = ⟨A.n, A.l, false, A.fuse, A.steps⟩) := by show _ = _; unfold Mm.step; rw [hm]; rfl
      rw [hz] at c3
      clear hm hz hon
      go_enter Tryz.func129, Tryz.ntmps129
      go_wp2
      go_ret
      rw [unhide HE, unhide HS]
      exact ⟨rfl, (unhide H).head (Keeps.setCell (F := (· = b)) (p := ⟨b, 2, none⟩) (Keeps.refl _ _) rfl _) _ _ _ (rhead_set (unhide H).hd 2 _ _ rfl), Keeps.setCell (F := F) (p := ⟨b, 2, none⟩) (Keeps.refl _ _) (unhide H).fb _⟩
    · have hm : A.may = true := by simp [Mm.may, hz, hon]
      have HE : Hid (A.err = 0) := by show _ = _; unfold Mm.err; rw [hm]; rfl
      have hz' : (A.fuse == 0) = false := by simp [hz]
      by_cases hp : 0 < A.fuse
      · have HS : Hid (A.step A.l = ⟨A.n, A.l, A.on, A.fuse - 1, A.steps + 1⟩) := by show _ = _; unfold Mm.step; rw [hm]; simp [Mm.stepped, hp]
        clear hm hz hon
        go_enter Tryz.func129, Tryz.ntmps129
        go_wp2
        go_ret
        rw [unhide HE, unhide HS]
        refine ⟨rfl, (unhide H).head (Keeps.setCell (F := (· = b)) (p := ⟨b, 4, none⟩) (Keeps.setCell (F := (· = b)) (p := ⟨b, 3, none⟩) (Keeps.refl _ _) rfl _) rfl _) A.on (A.fuse - 1) (A.steps + 1) ?_, Keeps.setCell (F := F) (p := ⟨b, 4, none⟩) (Keeps.setCell (F := F) (p := ⟨b, 3, none⟩) (Keeps.refl _ _) (unhide H).fb _) (unhide H).fb _⟩
        exact rhead_set (rhead_set (unhide H).hd 3 (.int .i64 (A.fuse - 1)) ⟨A.n, A.l, A.on, A.fuse - 1, A.steps⟩ rfl) 4 (.int .i64 ((A.steps : Int) + 1)) _ (by simp [rhead])
      · have HS : Hid (A.step A.l = ⟨A.n, A.l, A.on, A.fuse, A.steps + 1⟩) := by show _ = _; unfold Mm.step; rw [hm]; simp [Mm.stepped, hp]
        have hp' : ¬ (0 < A.fuse) := hp
        clear hm hz hon
        go_enter Tryz.func129, Tryz.ntmps129
        go_wp2
        go_ret
        rw [unhide HE, unhide HS]
        refine ⟨rfl, (unhide H).head (Keeps.setCell (F := (· = b)) (p := ⟨b, 4, none⟩) (Keeps.refl _ _) rfl _) A.on A.fuse (A.steps + 1) ?_, Keeps.setCell (F := F) (p := ⟨b, 4, none⟩) (Keeps.refl _ _) (unhide H).fb _⟩
        exact rhead_set (unhide H).hd 4 (.int .i64 ((A.steps : Int) + 1)) _ (by simp [rhead])
  · have hon' : A.on = false := by simpa using hon
    have hm : A.may = false := by simp [Mm.may, hon']
    have HE : Hid (A.err = 4) := by show _ = _; unfold Mm.err; rw [hm]; rfl
    have HS : Hid (A.step A.l = ⟨A.n, A.l, false, A.fuse, A.steps⟩) := by show _ = _; unfold Mm.step; rw [hm]; rfl
    rw [hon'] at c2
    clear hm hon hon'
    go_enter Tryz.func129, Tryz.ntmps129
    go_wp2
    go_ret
    rw [unhide HE, unhide HS]
    exact ⟨rfl, (unhide H).head (Keeps.setCell (F := (· = b)) (p := ⟨b, 2, none⟩) (Keeps.refl _ _) rfl _) _ _ _ (rhead_set (unhide H).hd 2 _ _ rfl), Keeps.setCell (F := F) (p := ⟨b, 2, none⟩) (Keeps.refl _ _) (unhide H).fb _⟩
end

end Go.Proofs.YtinhnnnehhlceaaGreat


/-
  What the document's has tells: a line, behind its first n stores; nothing that was there turns.
-/
namespace Go.Proofs.YtinhnnnehhlceaaGreat
open Go.ChangeShapes Go.WideShapes Go.ChangeAt Go.RowKit Go.Joins
set_option maxRecDepth 10000
set_option linter.unusedVariables false
set_option linter.unusedSimpArgs false

section
variable {w : World} {F : Nat → Prop} {b gs cs gl : Nat} {A : Mm} {ads : Nat → Option Nat} {caps : Nat → Nat}

/-- The cells of a store of a line. -/
theorem RRep.st (h : RRep w F b A gs cs gl ads caps) (k : Nat) (hk : k < A.n) (j : Nat) (hj : j < (A.l k).t.length) :
    ∃ g, ads k = some g ∧ w.cell? ⟨g, j * 10, none⟩ = some (.int .i64 (((A.l k).t[j]).1 : Int)) ∧ w.cell? ⟨g, j * 10 + 1, none⟩ = some (.int .u64 ((A.l k).t[j]).2) ∧ ∀ c, c < 8 → w.cell? ⟨g, j * 10 + 2 + c, none⟩ = some (.bool (decide (j < (A.l k).f c))) ∧ w.frozen? ⟨g, j * 10 + 2 + c, none⟩ = false := by
  rcases h.row k hk with ⟨_, _, h0⟩ | ⟨g, N, f, h1, h2, h3, _, _, h4⟩
  · rw [h0] at hj; simp at hj
  · have hg : (A.l k).t[j]?.getD (0, 0) = (A.l k).t[j] := by rw [List.getElem?_eq_getElem hj]; rfl
    refine ⟨g, h1, ?_, ?_, fun c hc => ⟨?_, h2.free _⟩⟩
    · rw [h2.cell _ (by omega)]; have := h4 j 0 hj (by omega); rw [Nat.add_zero] at this; rw [this]; simp [doneAt, List.getD_eq_getElem?_getD, hg]
    · rw [h2.cell _ (by omega), h4 j 1 hj (by omega)]; simp [doneAt, List.getD_eq_getElem?_getD, hg]
    · rw [h2.cell _ (by omega), Nat.add_assoc, h4 j (2 + c) hj (by omega)]; simp [doneAt, show ¬ (2 + c = 0) by omega, show ¬ (2 + c = 1) by omega]

theorem rhas_any (h : RRep w F b A gs cs gl ads caps) (k n : Nat) (hk : k < A.n) (hn : n ≤ (A.l k).t.length) (hok : (A.l k).ok) (hn2 : A.n ≤ 1024) (hl : (A.l k).t.length ≤ 1000000) :
    Calls Tryz.prog 119 #[.pointer (some ⟨b, 0, none⟩), .int .i64 k, .int .i64 n] w fun e w' => e = .returned (.agg (lnV (runS ((A.l k).t.take n) (A.l k).s))) ∧ Keeps (fun _ => False) w w' := by
  have c0 := h.c0
  have hk' : (k : Int) < (A.n : Int) := by omega
  have H := hide h
  have HR : Hid ((w.alloc (.cells (lnV fun _ => 0) 83)).rangeAt gs (k * 8) (lnV (A.l k).s).toList) := World.rangeAt_alloc (h.sR k hk) _
  have cz := cell_under c0 (.cells (lnV fun _ => 0) 83)
  have s8 : (Tryz.prog.info? 83).map (·.size) = some (lnV (A.l k).s).toList.length := by rw [Array.length_toList, lnV_size]; exact lsize
  have hz : (#[.int .u64 0, .int .u64 0, .int .u64 0, .int .u64 0, .int .u64 0, .int .u64 0, .int .u64 0, .int .u64 0] : Array Value) = lnV fun _ => 0 := rfl
  have HZ := hide hz
  have hst := store_line (A.l k).s
  have hsz := lnV_size (A.l k).s
  clear h hz
  go_enter Tryz.func119, Tryz.ntmps119
  go_upto_region 1 with fail
  rw [unhide HZ]
  have HK1 : Hid (Keeps (fun _ => False) w (w.alloc (.cells (lnV fun _ => 0) 83))) := (Keeps.refl _ _).alloc _
  have HB1 := hide (heap_new w (.cells (lnV fun _ => 0) 83))
  obtain ⟨R, hR⟩ : ∃ R, R = w.heap.size := ⟨_, rfl⟩
  rw [← hR] at HB1 ⊢
  have HRR := hide hR
  clear hR c0 HZ
  generalize w.alloc (.cells (lnV fun _ => 0) 83) = W1 at *
  go_upto_region 2 with (refine wpList_load_mid rfl 83 _ rfl gs (k * 8) rfl _ _ (unhide HR) Tryz.underlying83 rfl s8 ?_)
  clear hst hsz cz HR
  have HK2 : Hid (Keeps (fun _ => False) w (W1.alloc (.cells (lnV (A.l k).s) 83))) := (unhide HK1).alloc _
  have HB2 := hide (heap_new W1 (.cells (lnV (A.l k).s) 83))
  have hlt1 := lt_of_block (unhide HB1)
  have HB3 : Hid ((W1.alloc (.cells (lnV (A.l k).s) 83)).heap[R]? = some (.cells (lnV fun _ => 0) 83 (0, 0))) := (Below.heap_alloc W1 _ R hlt1).trans (unhide HB1)
  obtain ⟨L, hL⟩ : ∃ L, L = W1.heap.size := ⟨_, rfl⟩
  have hLR : R ≠ L := by omega
  have HLW : Hid (w.heap.size ≤ L) := by show _ ≤ _; rw [hL]; exact (unhide HK1).size
  have HRW : Hid (w.heap.size ≤ R) := by show _ ≤ _; rw [unhide HRR]; exact Nat.le_refl _
  rw [← hL] at HB2 ⊢
  clear hL hlt1 HK1 HB1
  generalize W1.alloc (.cells (lnV (A.l k).s) 83) = W2 at *
  go_wp2_with fail
  go_loopw [8] (fun u wr => ∃ j : Nat, j ≤ n ∧ u = .int .i64 j ∧ Keeps (fun _ => False) w wr ∧ wr.heap[R]? = some (.cells (lnV fun _ => 0) 83 (0, 0)) ∧ wr.heap[L]? = some (.cells (lnV (runS ((A.l k).t.take j) (A.l k).s)) 83 (0, 0))) (fun u _ => n - (intOf u).toNat)
  case atStart => exact ⟨0, by omega, rfl, unhide HK2, unhide HB3, unhide HB2⟩
  case round =>
    clear HK2 HB3 HB2
    obtain ⟨j, hj, rfl, hkr, hrr, hlr⟩ := hrel
    have HKR := hide hkr
    have HBR := hide hrr
    have HBL := hide hlr
    clear hkr hrr hlr
    by_cases hlt : j < n
    · obtain ⟨g, hg, x1, x2, -⟩ := (unhide H).st k hk j (by omega)
      have hset := runS_take (A.l k).t j (by omega) (A.l k).s
      obtain ⟨p1, p2⟩ := hok.2.1 ((A.l k).t[j]) (by simp)
      obtain ⟨q, hq⟩ : ∃ q, q = ((A.l k).t[j]).1 := ⟨_, rfl⟩
      obtain ⟨v, hv⟩ : ∃ v, v = ((A.l k).t[j]).2 := ⟨_, rfl⟩
      rw [← hq] at x1 hset p1
      rw [← hv] at x2 hset p2
      have HS := hide hset
      have X1 := hide x1
      have X2 := hide x2
      have Y1 := hide (unhide H).c1
      have Y2 : Hid (w.cell? ⟨gl, k, none⟩ = some (.slice (some ⟨g, 0, none⟩) (A.l k).t.length (caps k))) := by have := (unhide H).lc k hk; rw [hg] at this; exact this
      have hjl : (j : Int) < ((A.l k).t.length : Int) := by omega
      have hjn : (j : Int) < (n : Int) := by omega
      have q0 : (0 : Int) ≤ (q : Int) := by omega
      have q8 : (q : Int) < 8 := by omega
      clear hset hq hv x1 x2 hg
      go_wp2_with fail
      refine wp_region_noPanic ?_
      refine wp_region_held_drew (S := fun w' => Keeps (fun _ => False) w w') (by kernel_rfl) ((unhide HKR).drew) (fun hHeld => ?_)
      refine take_at 0 21 (v := ?_) rfl rfl (by kernel_rfl) (by kernel_rfl) (by kernel_rfl) (Or.inl ⟨by rfl, ?_⟩) hHeld ?_
      rotate_left
      · intro w hSw; go_simp; with_reducible rfl
      simp only [Act.put, List.setIfInBounds_toArray, List.set_cons_zero, List.set_cons_succ]
      refine take_at 1 22 (v := ?_) rfl rfl (by kernel_rfl) (by kernel_rfl) (by kernel_rfl) (Or.inl ⟨by rfl, ?_⟩) hHeld ?_
      rotate_left
      · intro w hSw; go_simp; with_reducible rfl
      simp only [Act.put, List.setIfInBounds_toArray, List.set_cons_zero, List.set_cons_succ]
      refine take_at 2 23 (v := ?_) rfl rfl (by kernel_rfl) (by kernel_rfl) (by kernel_rfl) (Or.inl ⟨by rfl, ?_⟩) hHeld ?_
      rotate_left
      · intro w hSw; go_simp; with_reducible rfl
      simp only [Act.put, List.setIfInBounds_toArray, List.set_cons_zero, List.set_cons_succ]
      refine take_at 3 24 (v := ?_) rfl rfl (by kernel_rfl) (by kernel_rfl) (by kernel_rfl) (Or.inl ⟨by rfl, ?_⟩) hHeld ?_
      rotate_left
      · intro w hSw; have f := hSw.cellOf (unhide Y1) id; go_simp; with_reducible rfl
      simp only [Act.put, List.setIfInBounds_toArray, List.set_cons_zero, List.set_cons_succ]
      refine take_at 4 25 (v := ?_) rfl rfl (by kernel_rfl) (by kernel_rfl) (by kernel_rfl) (Or.inl ⟨by rfl, ?_⟩) hHeld ?_
      rotate_left
      · intro w hSw; go_simp; with_reducible rfl
      simp only [Act.put, List.setIfInBounds_toArray, List.set_cons_zero, List.set_cons_succ]
      refine take_at 5 26 (v := ?_) rfl rfl (by kernel_rfl) (by kernel_rfl) (by kernel_rfl) (Or.inl ⟨by rfl, ?_⟩) hHeld ?_
      rotate_left
      · intro w hSw; go_simp; with_reducible rfl
      simp only [Act.put, List.setIfInBounds_toArray, List.set_cons_zero, List.set_cons_succ]
      refine take_at 6 27 (v := ?_) rfl rfl (by kernel_rfl) (by kernel_rfl) (by kernel_rfl) (Or.inl ⟨by rfl, ?_⟩) hHeld ?_
      rotate_left
      · intro w hSw; have f := hSw.cellOf (unhide Y2) id; go_simp; with_reducible rfl
      simp only [Act.put, List.setIfInBounds_toArray, List.set_cons_zero, List.set_cons_succ]
      refine take_at 7 28 (v := ?_) rfl rfl (by kernel_rfl) (by kernel_rfl) (by kernel_rfl) (Or.inl ⟨by rfl, ?_⟩) hHeld ?_
      rotate_left
      · intro w hSw; go_simp; with_reducible rfl
      simp only [Act.put, List.setIfInBounds_toArray, List.set_cons_zero, List.set_cons_succ]
      refine take_at 8 29 (v := ?_) rfl rfl (by kernel_rfl) (by kernel_rfl) (by kernel_rfl) (Or.inl ⟨by rfl, ?_⟩) hHeld ?_
      rotate_left
      · intro w hSw; go_simp; with_reducible rfl
      simp only [Act.put, List.setIfInBounds_toArray, List.set_cons_zero, List.set_cons_succ]
      refine take_at 9 30 (v := ?_) rfl rfl (by kernel_rfl) (by kernel_rfl) (by kernel_rfl) (Or.inl ⟨by rfl, ?_⟩) hHeld ?_
      rotate_left
      · intro w hSw; go_simp; with_reducible rfl
      simp only [Act.put, List.setIfInBounds_toArray, List.set_cons_zero, List.set_cons_succ]
      refine take_at 10 31 (v := ?_) rfl rfl (by kernel_rfl) (by kernel_rfl) (by kernel_rfl) (Or.inl ⟨by rfl, ?_⟩) hHeld ?_
      rotate_left
      · intro w hSw; have f := hSw.cellOf (unhide X1) id; go_simp; with_reducible rfl
      simp only [Act.put, List.setIfInBounds_toArray, List.set_cons_zero, List.set_cons_succ]
      refine take_at 11 32 (v := ?_) rfl rfl (by kernel_rfl) (by kernel_rfl) (by kernel_rfl) (Or.inl ⟨by rfl, ?_⟩) hHeld ?_
      rotate_left
      · intro w hSw; go_simp; with_reducible rfl
      simp only [Act.put, List.setIfInBounds_toArray, List.set_cons_zero, List.set_cons_succ]
      refine take_at 12 33 (v := ?_) rfl rfl (by kernel_rfl) (by kernel_rfl) (by kernel_rfl) (Or.inl ⟨by rfl, ?_⟩) hHeld ?_
      rotate_left
      · intro w hSw; go_simp; with_reducible rfl
      simp only [Act.put, List.setIfInBounds_toArray, List.set_cons_zero, List.set_cons_succ]
      refine take_at 13 34 (v := ?_) rfl rfl (by kernel_rfl) (by kernel_rfl) (by kernel_rfl) (Or.inl ⟨by rfl, ?_⟩) hHeld ?_
      rotate_left
      · intro w hSw; go_simp; with_reducible rfl
      simp only [Act.put, List.setIfInBounds_toArray, List.set_cons_zero, List.set_cons_succ]
      refine take_at 14 35 (v := ?_) rfl rfl (by kernel_rfl) (by kernel_rfl) (by kernel_rfl) (Or.inl ⟨by rfl, ?_⟩) hHeld ?_
      rotate_left
      · intro w hSw; have f := hSw.cellOf (unhide Y1) id; go_simp; with_reducible rfl
      simp only [Act.put, List.setIfInBounds_toArray, List.set_cons_zero, List.set_cons_succ]
      refine take_at 15 36 (v := ?_) rfl rfl (by kernel_rfl) (by kernel_rfl) (by kernel_rfl) (Or.inl ⟨by rfl, ?_⟩) hHeld ?_
      rotate_left
      · intro w hSw; go_simp; with_reducible rfl
      simp only [Act.put, List.setIfInBounds_toArray, List.set_cons_zero, List.set_cons_succ]
      refine take_at 16 37 (v := ?_) rfl rfl (by kernel_rfl) (by kernel_rfl) (by kernel_rfl) (Or.inl ⟨by rfl, ?_⟩) hHeld ?_
      rotate_left
      · intro w hSw; go_simp; with_reducible rfl
      simp only [Act.put, List.setIfInBounds_toArray, List.set_cons_zero, List.set_cons_succ]
      refine take_at 17 38 (v := ?_) rfl rfl (by kernel_rfl) (by kernel_rfl) (by kernel_rfl) (Or.inl ⟨by rfl, ?_⟩) hHeld ?_
      rotate_left
      · intro w hSw; have f := hSw.cellOf (unhide Y2) id; go_simp; with_reducible rfl
      simp only [Act.put, List.setIfInBounds_toArray, List.set_cons_zero, List.set_cons_succ]
      refine take_at 18 39 (v := ?_) rfl rfl (by kernel_rfl) (by kernel_rfl) (by kernel_rfl) (Or.inl ⟨by rfl, ?_⟩) hHeld ?_
      rotate_left
      · intro w hSw; go_simp; with_reducible rfl
      simp only [Act.put, List.setIfInBounds_toArray, List.set_cons_zero, List.set_cons_succ]
      refine take_at 19 40 (v := ?_) rfl rfl (by kernel_rfl) (by kernel_rfl) (by kernel_rfl) (Or.inl ⟨by rfl, ?_⟩) hHeld ?_
      rotate_left
      · intro w hSw; go_simp; with_reducible rfl
      simp only [Act.put, List.setIfInBounds_toArray, List.set_cons_zero, List.set_cons_succ]
      refine take_at 20 41 (v := ?_) rfl rfl (by kernel_rfl) (by kernel_rfl) (by kernel_rfl) (Or.inl ⟨by rfl, ?_⟩) hHeld ?_
      rotate_left
      · intro w hSw; go_simp; with_reducible rfl
      simp only [Act.put, List.setIfInBounds_toArray, List.set_cons_zero, List.set_cons_succ]
      refine take_at 21 42 (v := ?_) rfl rfl (by kernel_rfl) (by kernel_rfl) (by kernel_rfl) (Or.inl ⟨by rfl, ?_⟩) hHeld ?_
      rotate_left
      · intro w hSw; have f := hSw.cellOf (unhide X2) id; go_simp; with_reducible rfl
      simp only [Act.put, List.setIfInBounds_toArray, List.set_cons_zero, List.set_cons_succ]
      refine take_at 22 43 (v := ?_) rfl rfl (by kernel_rfl) (by kernel_rfl) (by kernel_rfl) (Or.inl ⟨by rfl, ?_⟩) hHeld ?_
      rotate_left
      · intro w hSw; go_simp; with_reducible rfl
      simp only [Act.put, List.setIfInBounds_toArray, List.set_cons_zero, List.set_cons_succ]
      refine wpAnyH_ready (rs := [23]) (by kernel_rfl) (by simp) ?_
      refine AllReadyH.cons rfl (fun K hK => ?_) AllReadyH.nil
      have d1 : wr.cell? ⟨L, q, none⟩ = some (.int .u64 (runS ((A.l k).t.take j) (A.l k).s q)) := by rw [cell_of_block (unhide HBL)]; exact tab_get _ _ _ p1
      have d2 : wr.frozen? ⟨L, q, none⟩ = false := unfrozen_of_block (unhide HBL) _
      generalize runS ((A.l k).t.take j) (A.l k).s q = old at *
      go_simp
      refine hK.out _ _ (Keeps.setCell_new (p := ⟨L, q, none⟩) (unhide HKR).drew (unhide HLW) _) (fun hNew => ?_)
      clear hK K hHeld d1 d2
      refine wpAnyH_done (by kernel_rfl) ?_ _
      refine NoPanic.normal ?_
      have HKN := hide hNew
      clear hNew
      go_wp2_with fail
      go_roundw
      case rel =>
        refine ⟨j + 1, by omega, by go_num, unhide HKN, ?_, ?_⟩
        · have : (wr.setCell ⟨L, q, none⟩ (.int .u64 v)).heap[R]? = wr.heap[R]? := heap_setCell_other _ _ _ _ (show R ≠ (⟨L, q, none⟩ : Addr).block from hLR)
          exact this.trans (unhide HBR)
        · rw [unhide HS]
          have h1 : wr.heap[L]? = some (.cells (tab 8 fun i => .int .u64 ((runS ((A.l k).t.take j) (A.l k).s) i)) 83 (0, 0)) := unhide HBL
          have h2 : (tab 8 fun i => .int .u64 (upd (runS ((A.l k).t.take j) (A.l k).s) q v i)) = (tab 8 fun i => .int .u64 ((runS ((A.l k).t.take j) (A.l k).s) i)).setIfInBounds q (.int .u64 v) := by
            rw [tab_set]; exact tab_ext fun i _ => by unfold upd; split <;> rfl
          show (wr.setCell ⟨L, q, none⟩ (.int .u64 v)).heap[L]? = some (.cells (tab 8 fun i => .int .u64 (upd (runS ((A.l k).t.take j) (A.l k).s) q v i)) 83 (0, 0))
          rw [h2, block_setCell h1]
      case measure => simp [intOf]; omega
    · obtain rfl : j = n := by omega
      obtain ⟨f, hf⟩ : ∃ f, f = runS ((A.l k).t.take j) (A.l k).s := ⟨_, rfl⟩
      rw [← hf] at HBL
      have HFE := hide hf
      clear hf
      have s8f : (Tryz.prog.info? 83).map (·.size) = some (lnV f).size := by rw [lnV_size]; exact lsize
      go_wp2_with (first | (refine wpList_load_row rfl 83 _ rfl L rfl _ _ _ _ (unhide HBL) Tryz.underlying83 rfl s8f ?_) | (refine wpList_store_row rfl 83 _ _ rfl R (lnV f) rfl rfl _ _ (unhide HBR) s8f (by rw [lnV_size, lnV_size]) (lnV_one _) ?_))
      refine bodyPost_ret (v := .agg (lnV f)) (results_cell_row Tryz.results119 _ _ R _ (lnV f) (0, 0) _ rfl (setRow_heap _ _ _ _ _ _ (unhide HBR)) Tryz.underlying83 rfl s8f) rfl ?_
      rw [← unhide HFE]
      exact ⟨rfl, Keeps.setRow (unhide HKR) (Or.inr (unhide HRW)) _⟩
end

end Go.Proofs.YtinhnnnehhlceaaGreat


/-
  What the document's sure does: a line's first n stores are sure.
-/
namespace Go.Proofs.YtinhnnnehhlceaaGreat
open Go.ChangeShapes Go.WideShapes Go.ChangeAt Go.RowKit Go.Joins
set_option maxRecDepth 10000
set_option linter.unusedVariables false
set_option linter.unusedSimpArgs false

/-- append onto a slice of the call's own, from a slice that may be nil. -/
theorem wp_append_src {P : Program} {w : World} {o : Oper} {a : Act} {K : Act → World → Prop} {Q : Exit → Act → World → Prop} (s x : Operand) (t : TypeId)
    (ho : o.op = .call { callee := .builtin .append, args := #[s, x], argTypes := #[t, t] })
    (base : Nat) (e : TypeId) (i : TypeInfo) (z : Value) (size bytes : Nat) (ht : P.underlying t = some (.slice e)) (hi : P.info? e = some i) (hz : i.zero = some z)
    (hsize : i.size = size) (hby : i.bytes = bytes) (hzs : z.cells.size = size) (hsz : 0 < size)
    (v : Value) (n : Nat) (xs : List Value) (hs : a.eval s = v) (hown : w.ownsRow base e size v n xs)
    (ao : Option Addr) (m c : Nat) (news : List Value) (hx : a.eval x = .slice ao m c) (hno : ao = none → m = 0 ∧ c = 0) (hl : news.length = m * size) (hnews : ∀ ad, ao = some ad → ∀ j u, news[j]? = some u → w.cell? (ad.add j) = some u) (h1 : ∀ u ∈ news, u.oneCell' = true)
    (h63 : n + m ≤ maxLen) (hbytes : (n + m) * bytes ≤ 140737488355328) (hbase : base ≤ w.heap.size)
    (h : ∀ v' w', w'.ownsRow base e size v' (n + m) (xs ++ news) → w.grownBy w' v.ownBlock → (v ≠ .slice none 0 0 → v' ≠ .slice none 0 0) → K (a.put o.dst v') w') : o.wp P a w K Q := by
  cases ao with
  | some ad => exact wp_append_own w s x t ho base e i z size bytes ht hi hz hsize hby hzs hsz v n xs hs hown ad m c news hx hl (hnews ad rfl) h1 h63 hbytes hbase (fun v' w' h2 h3 h4 => h v' w' h2 h3 (fun hv hv' => hv (h4.1 hv').1))
  | none =>
    obtain ⟨rfl, rfl⟩ := hno rfl
    obtain rfl : news = [] := List.eq_nil_of_length_eq_zero (by simpa using hl)
    have hrun := run_append_owned_none (P := P) (w := w) base t o.type e i size ht hi v n xs hown
    unfold Oper.wp
    simp [execOp, ho, resolve, invoke, builtin, hs, hx, hrun, Result.andThen]
    exact h v w (by simpa using hown) ⟨rfl, rfl, rfl, Nat.le_refl _, fun _ _ _ => rfl⟩ id

def doneV (l : Ln) : List Value := (List.range (l.t.length * 10)).map fun i => doneAt l (i / 10) (i % 10)
theorem doneV_len (l : Ln) : (doneV l).length = l.t.length * 10 := by simp [doneV]
theorem doneAt_one (l : Ln) (j c : Nat) : (doneAt l j c).oneCell' = true := by
  unfold doneAt
  split
  · rfl
  · split <;> rfl
theorem doneV_one (l : Ln) : ∀ u ∈ doneV l, u.oneCell' = true := by
  intro u hu
  simp only [doneV, List.mem_map] at hu
  obtain ⟨i, _, rfl⟩ := hu; exact doneAt_one _ _ _
theorem doneAt_settle (l : Ln) (n j c : Nat) : doneAt (l.settle n) j c = doneAt l (n + j) c := by
  unfold doneAt Ln.settle
  simp only [List.getD_eq_getElem?_getD, List.getElem?_drop]
  by_cases h0 : c = 0
  · simp [h0]
  · by_cases h1 : c = 1
    · simp [h1]
    · simp only [h0, h1, if_false]
      rw [show decide (j < l.f (c - 2) - n) = decide (n + j < l.f (c - 2)) from decide_eq_decide.2 (by omega)]
theorem info_done : (Tryz.prog.info? 195).map (fun i => (i.zero, i.size, i.bytes)) = some (some (.agg #[.int .i64 0, .int .u64 0, .bool false, .bool false, .bool false, .bool false, .bool false, .bool false, .bool false, .bool false]), 10, 24) := by kernel_rfl
/-- A row of stores that was just made. -/
theorem rrow_new {w : World} {base : Nat} {v : Value} {l : Ln} (h : w.ownsRow base 195 10 v l.t.length (doneV l)) (hv : v ≠ .slice none 0 0) :
    ∃ g cap, v = .slice (some ⟨g, 0, none⟩) l.t.length cap ∧ base ≤ g ∧ RRow w l (some g) cap := by
  rcases h.2 with ⟨rfl, _⟩ | ⟨g, cap, cur, rfl, hb, hg, hnc, hcm, hcs, htake⟩
  · exact absurd rfl hv
  · have hcur : cur = tab cur.size (fun i => cur.getD i undef) := by
      apply Array.ext_getElem?
      intro i
      by_cases hi : i < cur.size
      · rw [tab_get _ _ _ hi]; simp [Array.getD, hi]
      · rw [tab_none _ _ _ (by omega), Array.getElem?_eq_none (by omega)]
    refine ⟨g, cap, rfl, hb, Or.inr ⟨g, cur.size, fun i => cur.getD i undef, rfl, ?_, by omega, hnc, by unfold maxLen at hcm; exact hcm, fun j c hj hc => ?_⟩⟩
    · refine Blk.of_tab ?_; rw [← hcur]; exact hg
    · have hlt : j * 10 + c < l.t.length * 10 := by omega
      have h1 := h.cellAt (j * 10 + c) hlt
      rw [cell_of_block hg] at h1
      have h2 : (doneV l)[j * 10 + c]? = some (doneAt l j c) := by
        simp only [doneV, List.getElem?_map, List.getElem?_range hlt, Option.map_some, show (j * 10 + c) / 10 = j by omega, show (j * 10 + c) % 10 = c by omega]
      rw [h2] at h1
      show cur.getD (j * 10 + c) undef = _
      rw [Array.getD_eq_getD_getElem?, h1]; rfl

/-- The cells of a line's stores, behind the first n. -/
theorem rrow_cells {w : World} {l : Ln} {g cap : Nat} (h : RRow w l (some g) cap) (n : Nat) (hn : n ≤ l.t.length) :
    ∀ j u, (doneV (l.settle n))[j]? = some u → w.cell? ⟨g, n * 10 + j, none⟩ = some u := by
  intro j u hj
  have hlen : (l.settle n).t.length = l.t.length - n := by simp [Ln.settle]
  have hjl : j < (l.t.length - n) * 10 := by
    rcases Nat.lt_or_ge j ((l.t.length - n) * 10) with h | h
    · exact h
    · rw [List.getElem?_eq_none (by rw [doneV_len, hlen]; exact h)] at hj; simp at hj
  rcases h with ⟨h0, _⟩ | ⟨g', N, f, h1, h2, h3, _, _, h4⟩
  · simp at h0
  · cases h1
    rw [h2.cell _ (by omega), show n * 10 + j = (n + j / 10) * 10 + j % 10 by omega, h4 (n + j / 10) (j % 10) (by omega) (by omega), ← doneAt_settle]
    simp only [doneV, hlen, List.getElem?_map, List.getElem?_range hjl, Option.map_some] at hj
    exact hj

section
variable {w : World} {F : Nat → Prop} {b gs cs gl : Nat} {A : Mm} {ads : Nat → Option Nat} {caps : Nat → Nat}

/-- Behind the line: the row of its stores is made anew. -/
theorem rsure_end {w3 w4 : World} (h : RRep w F b A gs cs gl ads caps) (k n : Nat) (hk : k < A.n) (hn : n ≤ (A.l k).t.length) (hK3 : Keeps (· = gs) w w3)
    (hsb : ∃ N f, Blk w3 gs N 83 f ∧ A.n * 8 ≤ N ∧ ∀ i, i < A.n * 8 → f i = .int .u64 ((upd A.l k ((A.l k).settle n) (i / 8)).s (i % 8)))
    (hg4 : Keeps (fun _ => False) w3 w4) (g' cap' : Nat) (hbase : w3.heap.size ≤ g') (hrow : RRow w4 ((A.l k).settle n) (some g') cap') :
    RWent F w b gs cs gl ⟨A.n, upd A.l k ((A.l k).settle n), A.on, A.fuse, A.steps⟩ (.tuple #[]) (.returned (.tuple #[])) (w4.setCell ⟨gl, k, none⟩ (.slice (some ⟨g', 0, none⟩) ((A.l k).t.length - n) cap')) := by
  have hK4 : Keeps (fun x => x = gs ∨ x = gl) w (w4.setCell ⟨gl, k, none⟩ (.slice (some ⟨g', 0, none⟩) ((A.l k).t.length - n) cap')) :=
    (Keeps.setCell (F := fun x => x = gs ∨ x = gl) (p := ⟨gl, k, none⟩) ((hK3.mono fun _ _ e => Or.inl e).trans' (hg4.mono fun _ _ f => f.elim)) (Or.inr rfl) _)
  have hgl : gl < w3.heap.size := Nat.lt_of_lt_of_le (h.lt gl h.fl) hK3.size
  have hgs : gs < w3.heap.size := Nat.lt_of_lt_of_le (h.lt gs h.fs) hK3.size
  have hl4 : Blk w4 gl A.n 185 (rrowF A ads caps) := (h.lb.keeps hK3 (Ne.symm h.d3)).keeps hg4 id
  obtain ⟨N, f, b1, b2, b3⟩ := hsb
  have hkl : Keeps (· = gl) w4 (w4.setCell ⟨gl, k, none⟩ (.slice (some ⟨g', 0, none⟩) ((A.l k).t.length - n) cap')) := Keeps.setCell (F := (· = gl)) (p := ⟨gl, k, none⟩) (Keeps.refl _ _) rfl _
  refine ⟨rfl, _, _, _, h.line k hk ((A.l k).settle n) (some g') cap' hK4 (fun x hx => hx.elim Or.inl (fun e => Or.inr (Or.inl e))) ⟨N, f, (b1.keeps hg4 id).keeps hkl h.d3, b2, b3⟩ ?_ ?_ (fun g e => ?_), hK4.mono fun x _ hx => ?_, fun x hx => ?_⟩
  · refine (hl4.set k _).ext fun i _ => ?_
    rw [show ((A.l k).settle n).t.length = (A.l k).t.length - n by simp [Ln.settle]]; rfl
  · exact hrow.keeps hkl fun g e e2 => by cases e; omega
  · cases e; exact Or.inr (Nat.le_trans hK3.size hbase)
  · rcases hx with rfl | rfl
    · exact h.fs
    · exact h.fl
  · rcases hx with hx | hx
    · exact Or.inl hx
    · cases hx; exact Or.inr (Nat.le_trans hK3.size hbase)

theorem rsure_any (h : RRep w F b A gs cs gl ads caps) (k n : Nat) (hk : k < A.n) (hn : n ≤ (A.l k).t.length) (hok : (A.l k).ok) (hn2 : A.n ≤ 1024) (hl : (A.l k).t.length ≤ 1000000) :
    Calls Tryz.prog 165 #[.pointer (some ⟨b, 0, none⟩), .int .i64 k, .int .i64 n] w (RWent F w b gs cs gl ⟨A.n, upd A.l k ((A.l k).settle n), A.on, A.fuse, A.steps⟩ (.tuple #[])) := by
  have CH := hide (rhas_any h.drew k n hk hn hok hn2 hl)
  have Y0 := hide h.c0
  have H := hide h
  have hk' : (k : Int) < (A.n : Int) := by omega
  obtain ⟨f, hf⟩ : ∃ f, f = runS ((A.l k).t.take n) (A.l k).s := ⟨_, rfl⟩
  rw [← hf] at CH
  have HFE := hide hf
  clear h hf
  have HD1 := hide (unhide H).d1
  have HGB : Hid (gl ≠ b) := Ne.symm (unhide H).d2
  go_enter Tryz.func165, Tryz.ntmps165
  go_wp2_with fail
  refine wp_region_noPanic ?_
  refine wp_region_held_drew (S := fun w' => w'.cell? ⟨b, 0, none⟩ = some (.slice (some ⟨gs, 0, none⟩) A.n cs)) (by kernel_rfl) (unhide Y0) (fun hHeld => ?_)
  refine take_at 0 6 (v := ?_) rfl rfl (by kernel_rfl) (by kernel_rfl) (by kernel_rfl) (Or.inl ⟨by rfl, ?_⟩) hHeld ?_
  rotate_left
  · intro w hSw; go_simp; with_reducible rfl
  simp only [Act.put, List.setIfInBounds_toArray, List.set_cons_zero, List.set_cons_succ]
  refine take_at 1 7 (v := ?_) rfl rfl (by kernel_rfl) (by kernel_rfl) (by kernel_rfl) (Or.inl ⟨by rfl, ?_⟩) hHeld ?_
  rotate_left
  · intro w hSw; go_simp; with_reducible rfl
  simp only [Act.put, List.setIfInBounds_toArray, List.set_cons_zero, List.set_cons_succ]
  refine take_at 2 8 (v := ?_) rfl rfl (by kernel_rfl) (by kernel_rfl) (by kernel_rfl) (Or.inl ⟨by rfl, ?_⟩) hHeld ?_
  rotate_left
  · intro w hSw; go_simp; with_reducible rfl
  simp only [Act.put, List.setIfInBounds_toArray, List.set_cons_zero, List.set_cons_succ]
  refine take_at 3 9 (v := ?_) rfl rfl (by kernel_rfl) (by kernel_rfl) (by kernel_rfl) (Or.inl ⟨by rfl, ?_⟩) hHeld ?_
  rotate_left
  · intro w hSw; go_simp; with_reducible rfl
  simp only [Act.put, List.setIfInBounds_toArray, List.set_cons_zero, List.set_cons_succ]
  refine take_at 4 10 (v := ?_) rfl rfl (by kernel_rfl) (by kernel_rfl) (by kernel_rfl) (Or.inl ⟨by rfl, ?_⟩) hHeld ?_
  rotate_left
  · intro w hSw; go_simp; with_reducible rfl
  simp only [Act.put, List.setIfInBounds_toArray, List.set_cons_zero, List.set_cons_succ]
  refine take_at 5 11 (v := ?_) rfl rfl (by kernel_rfl) (by kernel_rfl) (by kernel_rfl) (Or.inl ⟨by rfl, ?_⟩) hHeld ?_
  rotate_left
  · intro w hSw; go_simp; with_reducible rfl
  simp only [Act.put, List.setIfInBounds_toArray, List.set_cons_zero, List.set_cons_succ]
  refine take_at 6 12 (v := ?_) rfl rfl (by kernel_rfl) (by kernel_rfl) (by kernel_rfl) (Or.inl ⟨by rfl, ?_⟩) hHeld ?_
  rotate_left
  · intro w hSw; go_simp; with_reducible rfl
  simp only [Act.put, List.setIfInBounds_toArray, List.set_cons_zero, List.set_cons_succ]
  refine take_at 7 13 (v := ?_) rfl rfl (by kernel_rfl) (by kernel_rfl) (by kernel_rfl) (Or.inl ⟨by rfl, ?_⟩) hHeld ?_
  rotate_left
  · intro w hSw; go_simp; with_reducible rfl
  simp only [Act.put, List.setIfInBounds_toArray, List.set_cons_zero, List.set_cons_succ]
  refine wpAnyH_ready (rs := [8]) (by kernel_rfl) (by simp) ?_
  refine AllReadyH.cons rfl (fun K hK => ?_) AllReadyH.nil
  go_simp
  refine (unhide CH).mono ?_
  rintro e w1 ⟨rfl, hk1⟩
  have HK1 : Hid (Keeps (fun _ => False) w w1) := (Keeps.refl (fun _ => False) w).drew.trans' hk1
  have y1 := (unhide HK1).cellOf (unhide Y0) id
  go_wp2_with fail
  refine hK.out _ _ y1 (fun hNew => ?_)
  clear hK K hHeld hk1 CH y1
  have hHeld := hNew
  clear hNew
  refine take_at 9 15 (v := ?_) rfl rfl (by kernel_rfl) (by kernel_rfl) (by kernel_rfl) (Or.inl ⟨by rfl, ?_⟩) hHeld ?_
  rotate_left
  · intro w hSw; go_simp; with_reducible rfl
  simp only [Act.put, List.setIfInBounds_toArray, List.set_cons_zero, List.set_cons_succ]
  refine wpAnyH_ready (rs := [10]) (by kernel_rfl) (by simp) ?_
  refine AllReadyH.cons rfl (fun K hK => ?_) AllReadyH.nil
  have s8 : (Tryz.prog.info? 83).map (·.size) = some (lnV f).size := by rw [lnV_size]; exact lsize
  have HT : Hid (w1.there gs (k * 8) (lnV f).size) := by
    obtain ⟨N, g, h1, h2, _⟩ := (unhide H).sb
    rw [lnV_size]; exact (h1.keeps (unhide HK1) id).there (k * 8) 8 (by omega)
  refine (if_pos (by rfl)).mpr ?_
  refine wp_store_mid 83 _ _ rfl gs (k * 8) (lnV f) rfl rfl (unhide HT) s8 (lnV_one _) ?_
  have HKX0 : Hid (Keeps (· = gs) w (w1.setCells gs (k * 8) (lnV f).toList)) := Keeps.setCells (F := (· = gs)) (Or.inl rfl) _ _ _ ((unhide HK1).mono fun _ _ x => x.elim)
  have HSB0 : Hid (∃ N g, Blk (w1.setCells gs (k * 8) (lnV f).toList) gs N 83 g ∧ A.n * 8 ≤ N ∧ ∀ i, i < A.n * 8 → g i = .int .u64 ((upd A.l k ((A.l k).settle n) (i / 8)).s (i % 8))) := by
    obtain ⟨N, g, h1, h2, _, h3⟩ := (unhide H).sb
    refine ⟨N, _, Blk.sets _ _ _ _ (h1.keeps (unhide HK1) id), h2, fun i hi => ?_⟩
    have hl8 : (lnV f).toList.length = 8 := by rw [Array.length_toList, lnV_size]
    rw [hl8]
    by_cases e : k * 8 ≤ i ∧ i < k * 8 + 8
    · rw [if_pos e, show i / 8 = k by omega, upd_same]
      have := tab_get 8 (fun j => Value.int .u64 (f j)) (i - k * 8) (by omega)
      rw [List.getD_eq_getElem?_getD, show (lnV f).toList[i - k * 8]? = some (.int .u64 (f (i - k * 8))) by rw [Array.getElem?_toList]; exact this, unhide HFE, show i % 8 = i - k * 8 by omega]; rfl
    · rw [if_neg e, h3 i hi, upd_other _ _ _ _ (by omega)]
  refine hK.out _ _ ((unhide HKX0).cellOf (unhide Y0) (unhide HD1)) (fun hNew => ?_)
  clear hK K hHeld hNew HT
  refine wpAnyH_done (by kernel_rfl) ?_ _
  refine NoPanic.normal ?_
  have Y1 : Hid ((w1.setCells gs (k * 8) (lnV f).toList).cell? ⟨b, 1, none⟩ = some (.slice (some ⟨gl, 0, none⟩) A.n A.n)) := (unhide HKX0).cellOf (unhide H).c1 (unhide HD1)
  have xl0 : (w1.setCells gs (k * 8) (lnV f).toList).cell? ⟨gl, k, none⟩ = some (.slice (slot0 (ads k)) (A.l k).t.length (caps k)) := (unhide HKX0).cellOf ((unhide H).lc k hk) (Ne.symm (unhide H).d3)
  have HRW0 : Hid (RRow (w1.setCells gs (k * 8) (lnV f).toList) (A.l k) (ads k) (caps k)) := ((unhide H).row k hk).keeps (unhide HKX0) (fun g hg e => ((unhide H).ap k hk g hg).2.1 e)
  have xf : (w1.setCells gs (k * 8) (lnV f).toList).frozen? ⟨gl, k, none⟩ = false := ((unhide H).lb.keeps (unhide HKX0) (Ne.symm (unhide H).d3)).free _
  obtain ⟨X, hX⟩ : ∃ X, X = w1.setCells gs (k * 8) (lnV f).toList := ⟨_, rfl⟩
  rw [← hX] at HKX0 HSB0 Y1 xl0 HRW0 xf ⊢
  have HKX := HKX0
  have HSB := HSB0
  clear hX HKX0 HSB0 HK1 s8
  have OW : Hid ((X.drew.alloc (.cells #[] 195)).ownsRow X.heap.size 195 10 (.slice (some ⟨X.heap.size, 0, none⟩) 0 0) 0 []) := World.ownsRow_lit (base := X.heap.size) (e := 195) (size := 10) X.drew #[] 0 (Nat.le_refl _) (by decide) rfl
  have SL2 : Hid ((A.l k).t.length - n = ((A.l k).settle n).t.length) := by show _ = _; simp [Ln.settle]
  have SLEN : Hid ((doneV ((A.l k).settle n)).length = ((A.l k).t.length - n) * 10) := by show _ = _; rw [doneV_len, ← unhide SL2]
  go_wp2_with fail
  cases had : ads k with
  | none =>
    rw [had] at xl0 HRW0
    have hz : caps k = 0 ∧ (A.l k).t = [] := by
      rcases unhide HRW0 with ⟨_, h1, h2⟩ | ⟨g, N, f, h1, _⟩
      · exact ⟨h1, h2⟩
      · simp at h1
    have hlen0 : (A.l k).t.length = 0 := by rw [hz.2]; rfl
    have xl : X.cell? ⟨gl, k, none⟩ = some (.slice none 0 0) := by rw [hlen0, hz.1] at xl0; exact xl0
    obtain rfl : n = 0 := by omega
    have SZ : Hid (0 = ((A.l k).settle 0).t.length) := by show _ = _; rw [← unhide SL2]; omega
    have SL0 : Hid ((doneV ((A.l k).settle 0)).length = 0 * 10) := by show _ = _; rw [doneV_len, ← unhide SZ]
    clear xl0 hz had
    have HL0 := hide hlen0
    clear hlen0
    refine wp_region_noPanic ?_
    refine wp_region_held_drew (S := fun w' => w'.cell? ⟨b, 1, none⟩ = some (.slice (some ⟨gl, 0, none⟩) A.n A.n)) (by kernel_rfl) (unhide Y1) (fun hHeld => ?_)
    refine take_at 0 16 (v := ?_) rfl rfl (by kernel_rfl) (by kernel_rfl) (by kernel_rfl) (Or.inl ⟨by rfl, ?_⟩) hHeld ?_
    rotate_left
    · intro w hSw; go_simp; with_reducible rfl
    simp only [Act.put, List.setIfInBounds_toArray, List.set_cons_zero, List.set_cons_succ]
    refine take_at 1 17 (v := ?_) rfl rfl (by kernel_rfl) (by kernel_rfl) (by kernel_rfl) (Or.inl ⟨by rfl, ?_⟩) hHeld ?_
    rotate_left
    · intro w hSw; go_simp; with_reducible rfl
    simp only [Act.put, List.setIfInBounds_toArray, List.set_cons_zero, List.set_cons_succ]
    refine take_at 2 18 (v := ?_) rfl rfl (by kernel_rfl) (by kernel_rfl) (by kernel_rfl) (Or.inl ⟨by rfl, ?_⟩) hHeld ?_
    rotate_left
    · intro w hSw; go_simp; with_reducible rfl
    simp only [Act.put, List.setIfInBounds_toArray, List.set_cons_zero, List.set_cons_succ]
    refine take_at 3 19 (v := ?_) rfl rfl (by kernel_rfl) (by kernel_rfl) (by kernel_rfl) (Or.inl ⟨by rfl, ?_⟩) hHeld ?_
    rotate_left
    · intro w hSw; go_simp; with_reducible rfl
    simp only [Act.put, List.setIfInBounds_toArray, List.set_cons_zero, List.set_cons_succ]
    refine take_at 4 20 (v := ?_) rfl rfl (by kernel_rfl) (by kernel_rfl) (by kernel_rfl) (Or.inl ⟨by rfl, ?_⟩) hHeld ?_
    rotate_left
    · intro w hSw; go_simp; with_reducible rfl
    simp only [Act.put, List.setIfInBounds_toArray, List.set_cons_zero, List.set_cons_succ]
    refine take_at 6 22 (v := ?_) rfl rfl (by kernel_rfl) (by kernel_rfl) (by kernel_rfl) (Or.inl ⟨by rfl, ?_⟩) hHeld ?_
    rotate_left
    · intro w hSw; go_simp; with_reducible rfl
    simp only [Act.put, List.setIfInBounds_toArray, List.set_cons_zero, List.set_cons_succ]
    refine take_at 7 23 (v := ?_) rfl rfl (by kernel_rfl) (by kernel_rfl) (by kernel_rfl) (Or.inl ⟨by rfl, ?_⟩) hHeld ?_
    rotate_left
    · intro w hSw; go_simp; with_reducible rfl
    simp only [Act.put, List.setIfInBounds_toArray, List.set_cons_zero, List.set_cons_succ]
    refine take_at 8 24 (v := ?_) rfl rfl (by kernel_rfl) (by kernel_rfl) (by kernel_rfl) (Or.inl ⟨by rfl, ?_⟩) hHeld ?_
    rotate_left
    · intro w hSw; go_simp; with_reducible rfl
    simp only [Act.put, List.setIfInBounds_toArray, List.set_cons_zero, List.set_cons_succ]
    refine take_at 9 25 (v := ?_) rfl rfl (by kernel_rfl) (by kernel_rfl) (by kernel_rfl) (Or.inl ⟨by rfl, ?_⟩) hHeld ?_
    rotate_left
    · intro w hSw; go_simp; with_reducible rfl
    simp only [Act.put, List.setIfInBounds_toArray, List.set_cons_zero, List.set_cons_succ]
    refine take_at 10 26 (v := ?_) rfl rfl (by kernel_rfl) (by kernel_rfl) (by kernel_rfl) (Or.inl ⟨by rfl, ?_⟩) hHeld ?_
    rotate_left
    · intro w hSw; go_simp; with_reducible rfl
    simp only [Act.put, List.setIfInBounds_toArray, List.set_cons_zero, List.set_cons_succ]
    refine take_at 11 27 (v := ?_) rfl rfl (by kernel_rfl) (by kernel_rfl) (by kernel_rfl) (Or.inl ⟨by rfl, ?_⟩) hHeld ?_
    rotate_left
    · intro w hSw; go_simp; with_reducible rfl
    simp only [Act.put, List.setIfInBounds_toArray, List.set_cons_zero, List.set_cons_succ]
    refine take_at 13 29 (v := ?_) rfl rfl (by kernel_rfl) (by kernel_rfl) (by kernel_rfl) (Or.inl ⟨by rfl, ?_⟩) hHeld ?_
    rotate_left
    · intro w hSw; go_simp; with_reducible rfl
    simp only [Act.put, List.setIfInBounds_toArray, List.set_cons_zero, List.set_cons_succ]
    have hS1 : (X.drew.alloc (.cells #[] 195)).cell? ⟨b, 1, none⟩ = some (.slice (some ⟨gl, 0, none⟩) A.n A.n) := cell_under (w := X.drew) hHeld _
    have HS1 := hide hS1
    clear hS1
    refine wpAnyH_ready (rs := [5, 12]) (by kernel_rfl) (by simp) ?_
    refine AllReadyH.cons rfl (fun K hK => ?_) (AllReadyH.cons rfl (fun K hK => ?_) AllReadyH.nil)
    · go_simp
      refine hK.out _ _ (unhide HS1) (fun hNew => ?_)
      clear hK K
      refine wpAnyH_ready (rs := [12]) (by kernel_rfl) (by simp) ?_
      refine AllReadyH.cons rfl (fun K hK => ?_) AllReadyH.nil
      have cc1 := (World.cell?_alloc_some X ⟨gl, k, none⟩ (.cells #[] 195) (by rw [xl]; rfl)).trans xl
      go_simp
      clear cc1
      refine hK.out _ _ (unhide HS1) (fun hNew2 => ?_)
      clear hK K hNew hHeld
      have hHeld := hNew2
      clear hNew2
      refine take_at 14 30 (v := ?_) rfl rfl (by kernel_rfl) (by kernel_rfl) (by kernel_rfl) (Or.inl ⟨by rfl, ?_⟩) hHeld ?_
      rotate_left
      · intro w hSw; go_simp; with_reducible rfl
      simp only [Act.put, List.setIfInBounds_toArray, List.set_cons_zero, List.set_cons_succ]
      refine wpAnyH_ready (rs := [15]) (by kernel_rfl) (by simp) ?_
      refine AllReadyH.cons rfl (fun K hK => ?_) AllReadyH.nil
      obtain ⟨i0, hi, hz0, hz1, hz2⟩ := info_parts info_done
      refine (if_pos (by rfl)).mpr ?_
      refine wp_append_src (.tmp 21) (.tmp 30) 185 rfl X.heap.size 195 i0 _ 10 24 Tryz.underlying185 hi hz0 hz1 hz2 rfl (by decide) (.slice (some ⟨X.heap.size, 0, none⟩) 0 0) 0 [] rfl (unhide OW) none 0 0 (doneV ((A.l k).settle 0)) rfl (fun _ => ⟨rfl, rfl⟩) (unhide SL0) (fun _ h => by simp at h) (doneV_one _) (by unfold maxLen; omega) (by omega) (by simp) ?_
      intro v' w4 hown hgr hnil
      have hw4 : Keeps (fun _ => False) X w4 := Keeps.grown (((Keeps.refl _ _).alloc _).drew) hgr (fun k hk => by simp [Value.ownBlock] at hk; right; omega)
      rw [Nat.zero_add, List.nil_append] at hown
      replace hown : w4.ownsRow X.heap.size 195 10 v' ((A.l k).settle 0).t.length (doneV ((A.l k).settle 0)) := by rw [← unhide SZ]; exact hown
      obtain ⟨g', cap', rfl, hb', hrow'⟩ := rrow_new hown (hnil (by simp))
      rw [← unhide SL2]
      have HW4 := hide hw4
      have HROW := hide hrow'
      have HB' := hide hb'
      have y4 := (unhide HW4).cellOf (unhide Y1) id
      have l4 := (unhide HW4).cellOf xl id
      have f4 : w4.frozen? ⟨gl, k, none⟩ = false := by rw [World.frozen?_of_block (w := X) ((unhide HW4).block gl (World.block_lt_of_cell? X _ xl) id)]; exact xf
      refine hK.out _ _ y4 (fun hNew => ?_)
      clear hK K hHeld hown hgr hnil hw4 hrow' hb' hi hz0 hz1 hz2 i0
      have hHeld := hNew
      clear hNew
      simp only [Act.put, List.setIfInBounds_toArray]
      refine take_at 16 32 (v := ?_) rfl rfl (by kernel_rfl) (by kernel_rfl) (by kernel_rfl) (Or.inl ⟨by rfl, ?_⟩) hHeld ?_
      rotate_left
      · intro w hSw; go_simp; with_reducible rfl
      simp only [Act.put, List.setIfInBounds_toArray, List.set_cons_zero, List.set_cons_succ]
      refine wpAnyH_ready (rs := [17]) (by kernel_rfl) (by simp) ?_
      refine AllReadyH.cons rfl (fun K hK => ?_) AllReadyH.nil
      go_simp
      refine hK.out _ _ ((World.cell?_setCell_far _ _ _ _ (unhide HGB)).trans y4) (fun hNew => ?_)
      clear hK K hHeld hNew
      refine wpAnyH_done (by kernel_rfl) ?_ _
      refine NoPanic.normal ?_
      clear y4 l4 f4
      go_wp2_with fail
      go_end0
      exact rsure_end (unhide H) k _ hk hn (unhide HKX) (unhide HSB) (unhide HW4) g' cap' (unhide HB') (unhide HROW)
    · go_simp
      refine hK.out _ _ hHeld (fun hNew => ?_)
      clear hK K
      refine take_at 14 30 (v := ?_) rfl rfl (by kernel_rfl) (by kernel_rfl) (by kernel_rfl) (Or.inl ⟨by rfl, ?_⟩) hHeld ?_
      rotate_left
      · intro w hSw; go_simp; with_reducible rfl
      simp only [Act.put, List.setIfInBounds_toArray, List.set_cons_zero, List.set_cons_succ]
      refine wpAnyH_ready (rs := [5]) (by kernel_rfl) (by simp) ?_
      refine AllReadyH.cons rfl (fun K hK => ?_) AllReadyH.nil
      go_simp
      refine hK.out _ _ (unhide HS1) (fun hNew2 => ?_)
      clear hK K hNew hHeld
      have hHeld := hNew2
      clear hNew2
      refine wpAnyH_ready (rs := [15]) (by kernel_rfl) (by simp) ?_
      refine AllReadyH.cons rfl (fun K hK => ?_) AllReadyH.nil
      obtain ⟨i0, hi, hz0, hz1, hz2⟩ := info_parts info_done
      refine (if_pos (by rfl)).mpr ?_
      refine wp_append_src (.tmp 21) (.tmp 30) 185 rfl X.heap.size 195 i0 _ 10 24 Tryz.underlying185 hi hz0 hz1 hz2 rfl (by decide) (.slice (some ⟨X.heap.size, 0, none⟩) 0 0) 0 [] rfl (unhide OW) none 0 0 (doneV ((A.l k).settle 0)) rfl (fun _ => ⟨rfl, rfl⟩) (unhide SL0) (fun _ h => by simp at h) (doneV_one _) (by unfold maxLen; omega) (by omega) (by simp) ?_
      intro v' w4 hown hgr hnil
      have hw4 : Keeps (fun _ => False) X w4 := Keeps.grown (((Keeps.refl _ _).alloc _).drew) hgr (fun k hk => by simp [Value.ownBlock] at hk; right; omega)
      rw [Nat.zero_add, List.nil_append] at hown
      replace hown : w4.ownsRow X.heap.size 195 10 v' ((A.l k).settle 0).t.length (doneV ((A.l k).settle 0)) := by rw [← unhide SZ]; exact hown
      obtain ⟨g', cap', rfl, hb', hrow'⟩ := rrow_new hown (hnil (by simp))
      rw [← unhide SL2]
      have HW4 := hide hw4
      have HROW := hide hrow'
      have HB' := hide hb'
      have y4 := (unhide HW4).cellOf (unhide Y1) id
      have l4 := (unhide HW4).cellOf xl id
      have f4 : w4.frozen? ⟨gl, k, none⟩ = false := by rw [World.frozen?_of_block (w := X) ((unhide HW4).block gl (World.block_lt_of_cell? X _ xl) id)]; exact xf
      refine hK.out _ _ y4 (fun hNew => ?_)
      clear hK K hHeld hown hgr hnil hw4 hrow' hb' hi hz0 hz1 hz2 i0
      have hHeld := hNew
      clear hNew
      simp only [Act.put, List.setIfInBounds_toArray]
      refine take_at 16 32 (v := ?_) rfl rfl (by kernel_rfl) (by kernel_rfl) (by kernel_rfl) (Or.inl ⟨by rfl, ?_⟩) hHeld ?_
      rotate_left
      · intro w hSw; go_simp; with_reducible rfl
      simp only [Act.put, List.setIfInBounds_toArray, List.set_cons_zero, List.set_cons_succ]
      refine wpAnyH_ready (rs := [17]) (by kernel_rfl) (by simp) ?_
      refine AllReadyH.cons rfl (fun K hK => ?_) AllReadyH.nil
      go_simp
      refine hK.out _ _ ((World.cell?_setCell_far _ _ _ _ (unhide HGB)).trans y4) (fun hNew => ?_)
      clear hK K hHeld hNew
      refine wpAnyH_done (by kernel_rfl) ?_ _
      refine NoPanic.normal ?_
      clear y4 l4 f4
      go_wp2_with fail
      go_end0
      exact rsure_end (unhide H) k _ hk hn (unhide HKX) (unhide HSB) (unhide HW4) g' cap' (unhide HB') (unhide HROW)
  | some g =>
    rw [had] at xl0 HRW0
    have hcap : (A.l k).t.length ≤ caps k := by
      rcases unhide HRW0 with ⟨h1, _⟩ | ⟨_, N, f, _, _, _, h1, _⟩
      · simp at h1
      · exact h1
    by_cases hck : caps k = n
    · have hln : (A.l k).t.length = n := by omega
      have xl : X.cell? ⟨gl, k, none⟩ = some (.slice (some ⟨g, 0, none⟩) n n) := by rw [hln, hck] at xl0; exact xl0
      have SZ : Hid (0 = ((A.l k).settle n).t.length) := by show _ = _; rw [← unhide SL2]; omega
      have SL0 : Hid ((doneV ((A.l k).settle n)).length = 0 * 10) := by show _ = _; rw [doneV_len, ← unhide SZ]
      have SD : Hid (doneV ((A.l k).settle n) = []) := List.eq_nil_of_length_eq_zero (by rw [unhide SL0])
      have HLN := hide hln
      clear xl0 had hln hck hcap
      refine wp_region_noPanic ?_
      refine wp_region_held_drew (S := fun w' => w'.cell? ⟨b, 1, none⟩ = some (.slice (some ⟨gl, 0, none⟩) A.n A.n)) (by kernel_rfl) (unhide Y1) (fun hHeld => ?_)
      refine take_at 0 16 (v := ?_) rfl rfl (by kernel_rfl) (by kernel_rfl) (by kernel_rfl) (Or.inl ⟨by rfl, ?_⟩) hHeld ?_
      rotate_left
      · intro w hSw; go_simp; with_reducible rfl
      simp only [Act.put, List.setIfInBounds_toArray, List.set_cons_zero, List.set_cons_succ]
      refine take_at 1 17 (v := ?_) rfl rfl (by kernel_rfl) (by kernel_rfl) (by kernel_rfl) (Or.inl ⟨by rfl, ?_⟩) hHeld ?_
      rotate_left
      · intro w hSw; go_simp; with_reducible rfl
      simp only [Act.put, List.setIfInBounds_toArray, List.set_cons_zero, List.set_cons_succ]
      refine take_at 2 18 (v := ?_) rfl rfl (by kernel_rfl) (by kernel_rfl) (by kernel_rfl) (Or.inl ⟨by rfl, ?_⟩) hHeld ?_
      rotate_left
      · intro w hSw; go_simp; with_reducible rfl
      simp only [Act.put, List.setIfInBounds_toArray, List.set_cons_zero, List.set_cons_succ]
      refine take_at 3 19 (v := ?_) rfl rfl (by kernel_rfl) (by kernel_rfl) (by kernel_rfl) (Or.inl ⟨by rfl, ?_⟩) hHeld ?_
      rotate_left
      · intro w hSw; go_simp; with_reducible rfl
      simp only [Act.put, List.setIfInBounds_toArray, List.set_cons_zero, List.set_cons_succ]
      refine take_at 4 20 (v := ?_) rfl rfl (by kernel_rfl) (by kernel_rfl) (by kernel_rfl) (Or.inl ⟨by rfl, ?_⟩) hHeld ?_
      rotate_left
      · intro w hSw; go_simp; with_reducible rfl
      simp only [Act.put, List.setIfInBounds_toArray, List.set_cons_zero, List.set_cons_succ]
      refine take_at 6 22 (v := ?_) rfl rfl (by kernel_rfl) (by kernel_rfl) (by kernel_rfl) (Or.inl ⟨by rfl, ?_⟩) hHeld ?_
      rotate_left
      · intro w hSw; go_simp; with_reducible rfl
      simp only [Act.put, List.setIfInBounds_toArray, List.set_cons_zero, List.set_cons_succ]
      refine take_at 7 23 (v := ?_) rfl rfl (by kernel_rfl) (by kernel_rfl) (by kernel_rfl) (Or.inl ⟨by rfl, ?_⟩) hHeld ?_
      rotate_left
      · intro w hSw; go_simp; with_reducible rfl
      simp only [Act.put, List.setIfInBounds_toArray, List.set_cons_zero, List.set_cons_succ]
      refine take_at 8 24 (v := ?_) rfl rfl (by kernel_rfl) (by kernel_rfl) (by kernel_rfl) (Or.inl ⟨by rfl, ?_⟩) hHeld ?_
      rotate_left
      · intro w hSw; go_simp; with_reducible rfl
      simp only [Act.put, List.setIfInBounds_toArray, List.set_cons_zero, List.set_cons_succ]
      refine take_at 9 25 (v := ?_) rfl rfl (by kernel_rfl) (by kernel_rfl) (by kernel_rfl) (Or.inl ⟨by rfl, ?_⟩) hHeld ?_
      rotate_left
      · intro w hSw; go_simp; with_reducible rfl
      simp only [Act.put, List.setIfInBounds_toArray, List.set_cons_zero, List.set_cons_succ]
      refine take_at 10 26 (v := ?_) rfl rfl (by kernel_rfl) (by kernel_rfl) (by kernel_rfl) (Or.inl ⟨by rfl, ?_⟩) hHeld ?_
      rotate_left
      · intro w hSw; go_simp; with_reducible rfl
      simp only [Act.put, List.setIfInBounds_toArray, List.set_cons_zero, List.set_cons_succ]
      refine take_at 11 27 (v := ?_) rfl rfl (by kernel_rfl) (by kernel_rfl) (by kernel_rfl) (Or.inl ⟨by rfl, ?_⟩) hHeld ?_
      rotate_left
      · intro w hSw; go_simp; with_reducible rfl
      simp only [Act.put, List.setIfInBounds_toArray, List.set_cons_zero, List.set_cons_succ]
      refine take_at 13 29 (v := ?_) rfl rfl (by kernel_rfl) (by kernel_rfl) (by kernel_rfl) (Or.inl ⟨by rfl, ?_⟩) hHeld ?_
      rotate_left
      · intro w hSw; go_simp; with_reducible rfl
      simp only [Act.put, List.setIfInBounds_toArray, List.set_cons_zero, List.set_cons_succ]
      have hS1 : (X.drew.alloc (.cells #[] 195)).cell? ⟨b, 1, none⟩ = some (.slice (some ⟨gl, 0, none⟩) A.n A.n) := cell_under (w := X.drew) hHeld _
      have HS1 := hide hS1
      clear hS1
      refine wpAnyH_ready (rs := [5, 12]) (by kernel_rfl) (by simp) ?_
      refine AllReadyH.cons rfl (fun K hK => ?_) (AllReadyH.cons rfl (fun K hK => ?_) AllReadyH.nil)
      · go_simp
        refine hK.out _ _ (unhide HS1) (fun hNew => ?_)
        clear hK K
        refine wpAnyH_ready (rs := [12]) (by kernel_rfl) (by simp) ?_
        refine AllReadyH.cons rfl (fun K hK => ?_) AllReadyH.nil
        have cc1 := (World.cell?_alloc_some X ⟨gl, k, none⟩ (.cells #[] 195) (by rw [xl]; rfl)).trans xl
        go_simp
        clear cc1
        refine hK.out _ _ (unhide HS1) (fun hNew2 => ?_)
        clear hK K hNew hHeld
        have hHeld := hNew2
        clear hNew2
        refine take_at 14 30 (v := ?_) rfl rfl (by kernel_rfl) (by kernel_rfl) (by kernel_rfl) (Or.inl ⟨by rfl, ?_⟩) hHeld ?_
        rotate_left
        · intro w hSw; go_simp; with_reducible rfl
        simp only [Act.put, List.setIfInBounds_toArray, List.set_cons_zero, List.set_cons_succ]
        refine wpAnyH_ready (rs := [15]) (by kernel_rfl) (by simp) ?_
        refine AllReadyH.cons rfl (fun K hK => ?_) AllReadyH.nil
        obtain ⟨i0, hi, hz0, hz1, hz2⟩ := info_parts info_done
        refine (if_pos (by rfl)).mpr ?_
        refine wp_append_src (.tmp 21) (.tmp 30) 185 rfl X.heap.size 195 i0 _ 10 24 Tryz.underlying185 hi hz0 hz1 hz2 rfl (by decide) (.slice (some ⟨X.heap.size, 0, none⟩) 0 0) 0 [] rfl (unhide OW) (some ⟨g, 0, none⟩) 0 0 (doneV ((A.l k).settle n)) rfl (fun h => by simp at h) (unhide SL0) (fun ad h j u hj => by rw [unhide SD] at hj; simp at hj) (doneV_one _) (by unfold maxLen; omega) (by omega) (by simp) ?_
        intro v' w4 hown hgr hnil
        have hw4 : Keeps (fun _ => False) X w4 := Keeps.grown (((Keeps.refl _ _).alloc _).drew) hgr (fun k hk => by simp [Value.ownBlock] at hk; right; omega)
        rw [Nat.zero_add, List.nil_append] at hown
        replace hown : w4.ownsRow X.heap.size 195 10 v' ((A.l k).settle n).t.length (doneV ((A.l k).settle n)) := by rw [← unhide SZ]; exact hown
        obtain ⟨g', cap', rfl, hb', hrow'⟩ := rrow_new hown (hnil (by simp))
        rw [← unhide SL2]
        have HW4 := hide hw4
        have HROW := hide hrow'
        have HB' := hide hb'
        have y4 := (unhide HW4).cellOf (unhide Y1) id
        have l4 := (unhide HW4).cellOf xl id
        have f4 : w4.frozen? ⟨gl, k, none⟩ = false := by rw [World.frozen?_of_block (w := X) ((unhide HW4).block gl (World.block_lt_of_cell? X _ xl) id)]; exact xf
        refine hK.out _ _ y4 (fun hNew => ?_)
        clear hK K hHeld hown hgr hnil hw4 hrow' hb' hi hz0 hz1 hz2 i0
        have hHeld := hNew
        clear hNew
        simp only [Act.put, List.setIfInBounds_toArray]
        refine take_at 16 32 (v := ?_) rfl rfl (by kernel_rfl) (by kernel_rfl) (by kernel_rfl) (Or.inl ⟨by rfl, ?_⟩) hHeld ?_
        rotate_left
        · intro w hSw; go_simp; with_reducible rfl
        simp only [Act.put, List.setIfInBounds_toArray, List.set_cons_zero, List.set_cons_succ]
        refine wpAnyH_ready (rs := [17]) (by kernel_rfl) (by simp) ?_
        refine AllReadyH.cons rfl (fun K hK => ?_) AllReadyH.nil
        go_simp
        refine hK.out _ _ ((World.cell?_setCell_far _ _ _ _ (unhide HGB)).trans y4) (fun hNew => ?_)
        clear hK K hHeld hNew
        refine wpAnyH_done (by kernel_rfl) ?_ _
        refine NoPanic.normal ?_
        clear y4 l4 f4
        go_wp2_with fail
        go_end0
        exact rsure_end (unhide H) k _ hk hn (unhide HKX) (unhide HSB) (unhide HW4) g' cap' (unhide HB') (unhide HROW)
      · go_simp
        refine hK.out _ _ hHeld (fun hNew => ?_)
        clear hK K
        refine take_at 14 30 (v := ?_) rfl rfl (by kernel_rfl) (by kernel_rfl) (by kernel_rfl) (Or.inl ⟨by rfl, ?_⟩) hHeld ?_
        rotate_left
        · intro w hSw; go_simp; with_reducible rfl
        simp only [Act.put, List.setIfInBounds_toArray, List.set_cons_zero, List.set_cons_succ]
        refine wpAnyH_ready (rs := [5]) (by kernel_rfl) (by simp) ?_
        refine AllReadyH.cons rfl (fun K hK => ?_) AllReadyH.nil
        go_simp
        refine hK.out _ _ (unhide HS1) (fun hNew2 => ?_)
        clear hK K hNew hHeld
        have hHeld := hNew2
        clear hNew2
        refine wpAnyH_ready (rs := [15]) (by kernel_rfl) (by simp) ?_
        refine AllReadyH.cons rfl (fun K hK => ?_) AllReadyH.nil
        obtain ⟨i0, hi, hz0, hz1, hz2⟩ := info_parts info_done
        refine (if_pos (by rfl)).mpr ?_
        refine wp_append_src (.tmp 21) (.tmp 30) 185 rfl X.heap.size 195 i0 _ 10 24 Tryz.underlying185 hi hz0 hz1 hz2 rfl (by decide) (.slice (some ⟨X.heap.size, 0, none⟩) 0 0) 0 [] rfl (unhide OW) (some ⟨g, 0, none⟩) 0 0 (doneV ((A.l k).settle n)) rfl (fun h => by simp at h) (unhide SL0) (fun ad h j u hj => by rw [unhide SD] at hj; simp at hj) (doneV_one _) (by unfold maxLen; omega) (by omega) (by simp) ?_
        intro v' w4 hown hgr hnil
        have hw4 : Keeps (fun _ => False) X w4 := Keeps.grown (((Keeps.refl _ _).alloc _).drew) hgr (fun k hk => by simp [Value.ownBlock] at hk; right; omega)
        rw [Nat.zero_add, List.nil_append] at hown
        replace hown : w4.ownsRow X.heap.size 195 10 v' ((A.l k).settle n).t.length (doneV ((A.l k).settle n)) := by rw [← unhide SZ]; exact hown
        obtain ⟨g', cap', rfl, hb', hrow'⟩ := rrow_new hown (hnil (by simp))
        rw [← unhide SL2]
        have HW4 := hide hw4
        have HROW := hide hrow'
        have HB' := hide hb'
        have y4 := (unhide HW4).cellOf (unhide Y1) id
        have l4 := (unhide HW4).cellOf xl id
        have f4 : w4.frozen? ⟨gl, k, none⟩ = false := by rw [World.frozen?_of_block (w := X) ((unhide HW4).block gl (World.block_lt_of_cell? X _ xl) id)]; exact xf
        refine hK.out _ _ y4 (fun hNew => ?_)
        clear hK K hHeld hown hgr hnil hw4 hrow' hb' hi hz0 hz1 hz2 i0
        have hHeld := hNew
        clear hNew
        simp only [Act.put, List.setIfInBounds_toArray]
        refine take_at 16 32 (v := ?_) rfl rfl (by kernel_rfl) (by kernel_rfl) (by kernel_rfl) (Or.inl ⟨by rfl, ?_⟩) hHeld ?_
        rotate_left
        · intro w hSw; go_simp; with_reducible rfl
        simp only [Act.put, List.setIfInBounds_toArray, List.set_cons_zero, List.set_cons_succ]
        refine wpAnyH_ready (rs := [17]) (by kernel_rfl) (by simp) ?_
        refine AllReadyH.cons rfl (fun K hK => ?_) AllReadyH.nil
        go_simp
        refine hK.out _ _ ((World.cell?_setCell_far _ _ _ _ (unhide HGB)).trans y4) (fun hNew => ?_)
        clear hK K hHeld hNew
        refine wpAnyH_done (by kernel_rfl) ?_ _
        refine NoPanic.normal ?_
        clear y4 l4 f4
        go_wp2_with fail
        go_end0
        exact rsure_end (unhide H) k _ hk hn (unhide HKX) (unhide HSB) (unhide HW4) g' cap' (unhide HB') (unhide HROW)
    · have xl : X.cell? ⟨gl, k, none⟩ = some (.slice (some ⟨g, 0, none⟩) (A.l k).t.length (caps k)) := xl0
      have SCE : Hid (∀ j u, (doneV ((A.l k).settle n))[j]? = some u → (X.alloc (.cells #[] 195)).cell? ⟨g, n * 10 + j, none⟩ = some u) := fun j u hj => cell_under (rrow_cells (unhide HRW0) n hn j u hj) _
      have hnl : (n : Int) ≤ ((A.l k).t.length : Int) := by omega
      clear xl0 had
      refine wp_region_noPanic ?_
      refine wp_region_held_drew (S := fun w' => w'.cell? ⟨b, 1, none⟩ = some (.slice (some ⟨gl, 0, none⟩) A.n A.n)) (by kernel_rfl) (unhide Y1) (fun hHeld => ?_)
      refine take_at 0 16 (v := ?_) rfl rfl (by kernel_rfl) (by kernel_rfl) (by kernel_rfl) (Or.inl ⟨by rfl, ?_⟩) hHeld ?_
      rotate_left
      · intro w hSw; go_simp; with_reducible rfl
      simp only [Act.put, List.setIfInBounds_toArray, List.set_cons_zero, List.set_cons_succ]
      refine take_at 1 17 (v := ?_) rfl rfl (by kernel_rfl) (by kernel_rfl) (by kernel_rfl) (Or.inl ⟨by rfl, ?_⟩) hHeld ?_
      rotate_left
      · intro w hSw; go_simp; with_reducible rfl
      simp only [Act.put, List.setIfInBounds_toArray, List.set_cons_zero, List.set_cons_succ]
      refine take_at 2 18 (v := ?_) rfl rfl (by kernel_rfl) (by kernel_rfl) (by kernel_rfl) (Or.inl ⟨by rfl, ?_⟩) hHeld ?_
      rotate_left
      · intro w hSw; go_simp; with_reducible rfl
      simp only [Act.put, List.setIfInBounds_toArray, List.set_cons_zero, List.set_cons_succ]
      refine take_at 3 19 (v := ?_) rfl rfl (by kernel_rfl) (by kernel_rfl) (by kernel_rfl) (Or.inl ⟨by rfl, ?_⟩) hHeld ?_
      rotate_left
      · intro w hSw; go_simp; with_reducible rfl
      simp only [Act.put, List.setIfInBounds_toArray, List.set_cons_zero, List.set_cons_succ]
      refine take_at 4 20 (v := ?_) rfl rfl (by kernel_rfl) (by kernel_rfl) (by kernel_rfl) (Or.inl ⟨by rfl, ?_⟩) hHeld ?_
      rotate_left
      · intro w hSw; go_simp; with_reducible rfl
      simp only [Act.put, List.setIfInBounds_toArray, List.set_cons_zero, List.set_cons_succ]
      refine take_at 6 22 (v := ?_) rfl rfl (by kernel_rfl) (by kernel_rfl) (by kernel_rfl) (Or.inl ⟨by rfl, ?_⟩) hHeld ?_
      rotate_left
      · intro w hSw; go_simp; with_reducible rfl
      simp only [Act.put, List.setIfInBounds_toArray, List.set_cons_zero, List.set_cons_succ]
      refine take_at 7 23 (v := ?_) rfl rfl (by kernel_rfl) (by kernel_rfl) (by kernel_rfl) (Or.inl ⟨by rfl, ?_⟩) hHeld ?_
      rotate_left
      · intro w hSw; go_simp; with_reducible rfl
      simp only [Act.put, List.setIfInBounds_toArray, List.set_cons_zero, List.set_cons_succ]
      refine take_at 8 24 (v := ?_) rfl rfl (by kernel_rfl) (by kernel_rfl) (by kernel_rfl) (Or.inl ⟨by rfl, ?_⟩) hHeld ?_
      rotate_left
      · intro w hSw; go_simp; with_reducible rfl
      simp only [Act.put, List.setIfInBounds_toArray, List.set_cons_zero, List.set_cons_succ]
      refine take_at 9 25 (v := ?_) rfl rfl (by kernel_rfl) (by kernel_rfl) (by kernel_rfl) (Or.inl ⟨by rfl, ?_⟩) hHeld ?_
      rotate_left
      · intro w hSw; go_simp; with_reducible rfl
      simp only [Act.put, List.setIfInBounds_toArray, List.set_cons_zero, List.set_cons_succ]
      refine take_at 10 26 (v := ?_) rfl rfl (by kernel_rfl) (by kernel_rfl) (by kernel_rfl) (Or.inl ⟨by rfl, ?_⟩) hHeld ?_
      rotate_left
      · intro w hSw; go_simp; with_reducible rfl
      simp only [Act.put, List.setIfInBounds_toArray, List.set_cons_zero, List.set_cons_succ]
      refine take_at 11 27 (v := ?_) rfl rfl (by kernel_rfl) (by kernel_rfl) (by kernel_rfl) (Or.inl ⟨by rfl, ?_⟩) hHeld ?_
      rotate_left
      · intro w hSw; go_simp; with_reducible rfl
      simp only [Act.put, List.setIfInBounds_toArray, List.set_cons_zero, List.set_cons_succ]
      refine take_at 13 29 (v := ?_) rfl rfl (by kernel_rfl) (by kernel_rfl) (by kernel_rfl) (Or.inl ⟨by rfl, ?_⟩) hHeld ?_
      rotate_left
      · intro w hSw; go_simp; with_reducible rfl
      simp only [Act.put, List.setIfInBounds_toArray, List.set_cons_zero, List.set_cons_succ]
      have hS1 : (X.drew.alloc (.cells #[] 195)).cell? ⟨b, 1, none⟩ = some (.slice (some ⟨gl, 0, none⟩) A.n A.n) := cell_under (w := X.drew) hHeld _
      have HS1 := hide hS1
      clear hS1
      refine wpAnyH_ready (rs := [5, 12]) (by kernel_rfl) (by simp) ?_
      refine AllReadyH.cons rfl (fun K hK => ?_) (AllReadyH.cons rfl (fun K hK => ?_) AllReadyH.nil)
      · go_simp
        refine hK.out _ _ (unhide HS1) (fun hNew => ?_)
        clear hK K
        refine wpAnyH_ready (rs := [12]) (by kernel_rfl) (by simp) ?_
        refine AllReadyH.cons rfl (fun K hK => ?_) AllReadyH.nil
        have cc1 := (World.cell?_alloc_some X ⟨gl, k, none⟩ (.cells #[] 195) (by rw [xl]; rfl)).trans xl
        go_simp
        clear cc1
        refine hK.out _ _ (unhide HS1) (fun hNew2 => ?_)
        clear hK K hNew hHeld
        have hHeld := hNew2
        clear hNew2
        refine take_at 14 30 (v := ?_) rfl rfl (by kernel_rfl) (by kernel_rfl) (by kernel_rfl) (Or.inl ⟨by rfl, ?_⟩) hHeld ?_
        rotate_left
        · intro w hSw; go_simp; with_reducible rfl
        simp only [Act.put, List.setIfInBounds_toArray, List.set_cons_zero, List.set_cons_succ]
        refine wpAnyH_ready (rs := [15]) (by kernel_rfl) (by simp) ?_
        refine AllReadyH.cons rfl (fun K hK => ?_) AllReadyH.nil
        obtain ⟨i0, hi, hz0, hz1, hz2⟩ := info_parts info_done
        refine (if_pos (by rfl)).mpr ?_
        refine wp_append_src (.tmp 21) (.tmp 30) 185 rfl X.heap.size 195 i0 _ 10 24 Tryz.underlying185 hi hz0 hz1 hz2 rfl (by decide) (.slice (some ⟨X.heap.size, 0, none⟩) 0 0) 0 [] rfl (unhide OW) (some ⟨g, n * 10, none⟩) ((A.l k).t.length - n) (caps k - n) (doneV ((A.l k).settle n)) rfl (fun h => by simp at h) (unhide SLEN) (fun ad h j u hj => by cases h; rw [Addr.add_mid]; exact unhide SCE j u hj) (doneV_one _) (by unfold maxLen; omega) (by omega) (by simp) ?_
        intro v' w4 hown hgr hnil
        have hw4 : Keeps (fun _ => False) X w4 := Keeps.grown (((Keeps.refl _ _).alloc _).drew) hgr (fun k hk => by simp [Value.ownBlock] at hk; right; omega)
        rw [Nat.zero_add, List.nil_append, unhide SL2] at hown
        obtain ⟨g', cap', rfl, hb', hrow'⟩ := rrow_new hown (hnil (by simp))
        rw [← unhide SL2]
        have HW4 := hide hw4
        have HROW := hide hrow'
        have HB' := hide hb'
        have y4 := (unhide HW4).cellOf (unhide Y1) id
        have l4 := (unhide HW4).cellOf xl id
        have f4 : w4.frozen? ⟨gl, k, none⟩ = false := by rw [World.frozen?_of_block (w := X) ((unhide HW4).block gl (World.block_lt_of_cell? X _ xl) id)]; exact xf
        refine hK.out _ _ y4 (fun hNew => ?_)
        clear hK K hHeld hown hgr hnil hw4 hrow' hb' hi hz0 hz1 hz2 i0
        have hHeld := hNew
        clear hNew
        simp only [Act.put, List.setIfInBounds_toArray]
        refine take_at 16 32 (v := ?_) rfl rfl (by kernel_rfl) (by kernel_rfl) (by kernel_rfl) (Or.inl ⟨by rfl, ?_⟩) hHeld ?_
        rotate_left
        · intro w hSw; go_simp; with_reducible rfl
        simp only [Act.put, List.setIfInBounds_toArray, List.set_cons_zero, List.set_cons_succ]
        refine wpAnyH_ready (rs := [17]) (by kernel_rfl) (by simp) ?_
        refine AllReadyH.cons rfl (fun K hK => ?_) AllReadyH.nil
        go_simp
        refine hK.out _ _ ((World.cell?_setCell_far _ _ _ _ (unhide HGB)).trans y4) (fun hNew => ?_)
        clear hK K hHeld hNew
        refine wpAnyH_done (by kernel_rfl) ?_ _
        refine NoPanic.normal ?_
        clear y4 l4 f4
        go_wp2_with fail
        go_end0
        exact rsure_end (unhide H) k _ hk hn (unhide HKX) (unhide HSB) (unhide HW4) g' cap' (unhide HB') (unhide HROW)
      · go_simp
        refine hK.out _ _ hHeld (fun hNew => ?_)
        clear hK K
        refine take_at 14 30 (v := ?_) rfl rfl (by kernel_rfl) (by kernel_rfl) (by kernel_rfl) (Or.inl ⟨by rfl, ?_⟩) hHeld ?_
        rotate_left
        · intro w hSw; go_simp; with_reducible rfl
        simp only [Act.put, List.setIfInBounds_toArray, List.set_cons_zero, List.set_cons_succ]
        refine wpAnyH_ready (rs := [5]) (by kernel_rfl) (by simp) ?_
        refine AllReadyH.cons rfl (fun K hK => ?_) AllReadyH.nil
        go_simp
        refine hK.out _ _ (unhide HS1) (fun hNew2 => ?_)
        clear hK K hNew hHeld
        have hHeld := hNew2
        clear hNew2
        refine wpAnyH_ready (rs := [15]) (by kernel_rfl) (by simp) ?_
        refine AllReadyH.cons rfl (fun K hK => ?_) AllReadyH.nil
        obtain ⟨i0, hi, hz0, hz1, hz2⟩ := info_parts info_done
        refine (if_pos (by rfl)).mpr ?_
        refine wp_append_src (.tmp 21) (.tmp 30) 185 rfl X.heap.size 195 i0 _ 10 24 Tryz.underlying185 hi hz0 hz1 hz2 rfl (by decide) (.slice (some ⟨X.heap.size, 0, none⟩) 0 0) 0 [] rfl (unhide OW) (some ⟨g, n * 10, none⟩) ((A.l k).t.length - n) (caps k - n) (doneV ((A.l k).settle n)) rfl (fun h => by simp at h) (unhide SLEN) (fun ad h j u hj => by cases h; rw [Addr.add_mid]; exact unhide SCE j u hj) (doneV_one _) (by unfold maxLen; omega) (by omega) (by simp) ?_
        intro v' w4 hown hgr hnil
        have hw4 : Keeps (fun _ => False) X w4 := Keeps.grown (((Keeps.refl _ _).alloc _).drew) hgr (fun k hk => by simp [Value.ownBlock] at hk; right; omega)
        rw [Nat.zero_add, List.nil_append, unhide SL2] at hown
        obtain ⟨g', cap', rfl, hb', hrow'⟩ := rrow_new hown (hnil (by simp))
        rw [← unhide SL2]
        have HW4 := hide hw4
        have HROW := hide hrow'
        have HB' := hide hb'
        have y4 := (unhide HW4).cellOf (unhide Y1) id
        have l4 := (unhide HW4).cellOf xl id
        have f4 : w4.frozen? ⟨gl, k, none⟩ = false := by rw [World.frozen?_of_block (w := X) ((unhide HW4).block gl (World.block_lt_of_cell? X _ xl) id)]; exact xf
        refine hK.out _ _ y4 (fun hNew => ?_)
        clear hK K hHeld hown hgr hnil hw4 hrow' hb' hi hz0 hz1 hz2 i0
        have hHeld := hNew
        clear hNew
        simp only [Act.put, List.setIfInBounds_toArray]
        refine take_at 16 32 (v := ?_) rfl rfl (by kernel_rfl) (by kernel_rfl) (by kernel_rfl) (Or.inl ⟨by rfl, ?_⟩) hHeld ?_
        rotate_left
        · intro w hSw; go_simp; with_reducible rfl
        simp only [Act.put, List.setIfInBounds_toArray, List.set_cons_zero, List.set_cons_succ]
        refine wpAnyH_ready (rs := [17]) (by kernel_rfl) (by simp) ?_
        refine AllReadyH.cons rfl (fun K hK => ?_) AllReadyH.nil
        go_simp
        refine hK.out _ _ ((World.cell?_setCell_far _ _ _ _ (unhide HGB)).trans y4) (fun hNew => ?_)
        clear hK K hHeld hNew
        refine wpAnyH_done (by kernel_rfl) ?_ _
        refine NoPanic.normal ?_
        clear y4 l4 f4
        go_wp2_with fail
        go_end0
        exact rsure_end (unhide H) k _ hk hn (unhide HKX) (unhide HSB) (unhide HW4) g' cap' (unhide HB') (unhide HROW)
end

end Go.Proofs.YtinhnnnehhlceaaGreat


/-
  What the document's Load, Evict and Crash do.
-/
namespace Go.Proofs.YtinhnnnehhlceaaGreat
open Go.ChangeShapes Go.WideShapes Go.ChangeAt Go.RowKit Go.Joins
set_option maxRecDepth 10000
set_option linter.unusedVariables false
set_option linter.unusedSimpArgs false

section
variable {w : World} {F : Nat → Prop} {b gs cs gl : Nat} {A : Mm} {ads : Nat → Option Nat} {caps : Nat → Nat}

def RLoaded (w : World) (v : Value) (e : Ending) (w' : World) : Prop := e = .returned v ∧ Keeps (fun _ => False) w w'

theorem rload_good (h : RRep w F b A gs cs gl ads caps) (k : Nat) (hk : k < A.n) (hon : A.on = true) (hok : A.ok 1000) :
    Calls Tryz.prog 64 #[.pointer (some ⟨b, 0, none⟩), .int .i64 k] w (RLoaded w (.tuple #[.agg (lnV (A.l k).has), .int .i64 0])) := by
  obtain ⟨o1, o2, o3, o4, o5, o6, o7⟩ := hok
  have D1 : decide ((0 : Int) ≤ (k : Int) ∧ (k : Int) < (A.n : Int)) = true := by simp; omega
  have hk' : (k : Int) < (A.n : Int) := by omega
  have HON := hide hon
  clear hon
  have hz : (#[.int .u64 0, .int .u64 0, .int .u64 0, .int .u64 0, .int .u64 0, .int .u64 0, .int .u64 0, .int .u64 0] : Array Value) = lnV fun _ => 0 := rfl
  have H1 := hide (h.alloc (.cells (lnV fun _ => 0) 83))
  have HK : Hid (Keeps (fun _ => False) w (w.alloc (.cells (lnV fun _ => 0) 83))) := (Keeps.refl _ _).alloc _
  have HB := hide (heap_new w (.cells (lnV fun _ => 0) 83))
  have HF : Hid (¬ F w.heap.size) := h.fresh 0
  have HZ := hide hz
  clear h hz
  go_enter Tryz.func64, Tryz.ntmps64
  go_wp2_with fail
  rw [unhide HZ]
  obtain ⟨B, hB⟩ : ∃ B, B = w.heap.size := ⟨_, rfl⟩
  rw [← hB] at HB HF
  rw [← hB]
  have HBB := hide hB
  clear hB
  generalize w.alloc (.cells (lnV fun _ => 0) 83) = W at *
  refine (ris_any (unhide H1) _).mono ?_
  rintro e w1 ⟨rfl, rfl⟩
  have c1 := (unhide H1).c1
  have c2 := (unhide H1).c2
  have cl := (unhide H1).lc k hk
  rw [unhide HON] at c2
  have CH := hide (rhas_any (unhide H1) k (A.l k).t.length hk (Nat.le_refl _) (o3 k) o2 (by have := o4 k; omega))
  rw [D1]
  go_wp2_with fail
  refine (unhide CH).mono ?_
  rintro e w2 ⟨rfl, hk2⟩
  rw [List.take_length]
  obtain ⟨f, hf⟩ : ∃ f, f = runS (A.l k).t (A.l k).s := ⟨_, rfl⟩
  rw [← hf]
  have HFE : Hid (f = (A.l k).has) := hf
  have HB2 : Hid (w2.heap[B]? = some (.cells (lnV fun _ => 0) 83 (0, 0))) := (hk2.block B (lt_of_block (unhide HB)) id).trans (unhide HB)
  have HK2 : Hid (Keeps (fun _ => False) w w2) := (unhide HK).trans' hk2
  clear hf hk2 c1 c2 cl CH
  have s8' : (Tryz.prog.info? 83).map (·.size) = some (lnV f).size := by rw [lnV_size]; exact lsize
  go_wp2_with (refine wpList_store_row rfl 83 _ _ rfl B (lnV f) rfl rfl _ _ (unhide HB2) s8' (by rw [lnV_size, lnV_size]) (lnV_one _) ?_)
  refine bodyPost_ret (v := .tuple #[.agg (lnV f), .int .i64 0]) (results_line Tryz.results64 _ _ B 83 (lnV f) (0, 0) _ _ rfl rfl (setRow_heap _ _ _ _ _ _ (unhide HB2)) Tryz.underlying83 rfl s8') rfl ?_
  rw [← unhide HFE]
  exact ⟨rfl, Keeps.setRow (unhide HK2) (Or.inr (by rw [unhide HBB]; exact Nat.le_refl _)) _⟩

theorem rload_bad (h : RRep w F b A gs cs gl ads caps) (z : Int) (hz : ¬ (0 ≤ z ∧ z < A.n)) :
    Calls Tryz.prog 64 #[.pointer (some ⟨b, 0, none⟩), .int .i64 z] w (RLoaded w (.tuple #[.agg (lnV fun _ => 0), .int .i64 1])) := by
  have D1 : decide ((0 : Int) ≤ z ∧ z < (A.n : Int)) = false := by simpa using hz
  clear hz
  have hz : (#[.int .u64 0, .int .u64 0, .int .u64 0, .int .u64 0, .int .u64 0, .int .u64 0, .int .u64 0, .int .u64 0] : Array Value) = lnV fun _ => 0 := rfl
  have H1 := hide (h.alloc (.cells (lnV fun _ => 0) 83))
  have HK : Hid (Keeps (fun _ => False) w (w.alloc (.cells (lnV fun _ => 0) 83))) := (Keeps.refl _ _).alloc _
  have HB := hide (heap_new w (.cells (lnV fun _ => 0) 83))
  have HF : Hid (¬ F w.heap.size) := h.fresh 0
  have HZ := hide hz
  clear h hz
  go_enter Tryz.func64, Tryz.ntmps64
  go_wp2_with fail
  rw [unhide HZ]
  obtain ⟨B, hB⟩ : ∃ B, B = w.heap.size := ⟨_, rfl⟩
  rw [← hB] at HB HF
  rw [← hB]
  have HBB := hide hB
  clear hB
  generalize w.alloc (.cells (lnV fun _ => 0) 83) = W at *
  refine (ris_any (unhide H1) _).mono ?_
  rintro e w1 ⟨rfl, rfl⟩
  have s8' : (Tryz.prog.info? 83).map (·.size) = some (lnV fun _ => 0).size := by rw [lnV_size]; exact lsize
  rw [D1]
  go_wp2_with (first | (refine wpList_build0 rfl 83 rfl _ line_zero ?_) | (refine wpList_store_row rfl 83 _ _ rfl B (lnV fun _ => 0) rfl rfl _ _ (unhide HB) s8' (by rw [lnV_size]) (lnV_one _) ?_))
  refine bodyPost_ret (v := .tuple #[.agg (lnV fun _ => 0), .int .i64 1]) (results_line Tryz.results64 _ _ B 83 (lnV fun _ => 0) (0, 0) _ _ rfl rfl (setRow_heap _ _ _ _ _ _ (unhide HB)) Tryz.underlying83 rfl s8') rfl ?_
  exact ⟨rfl, Keeps.setRow (unhide HK) (Or.inr (by rw [unhide HBB]; exact Nat.le_refl _)) _⟩

theorem rload_off (h : RRep w F b A gs cs gl ads caps) (z : Int) (hz : 0 ≤ z ∧ z < A.n) (hon : A.on = false) :
    Calls Tryz.prog 64 #[.pointer (some ⟨b, 0, none⟩), .int .i64 z] w (RLoaded w (.tuple #[.agg (lnV fun _ => 0), .int .i64 4])) := by
  have D1 : decide ((0 : Int) ≤ z ∧ z < (A.n : Int)) = true := by simpa using hz
  have HON := hide hon
  clear hz hon
  have hz : (#[.int .u64 0, .int .u64 0, .int .u64 0, .int .u64 0, .int .u64 0, .int .u64 0, .int .u64 0, .int .u64 0] : Array Value) = lnV fun _ => 0 := rfl
  have H1 := hide (h.alloc (.cells (lnV fun _ => 0) 83))
  have HK : Hid (Keeps (fun _ => False) w (w.alloc (.cells (lnV fun _ => 0) 83))) := (Keeps.refl _ _).alloc _
  have HB := hide (heap_new w (.cells (lnV fun _ => 0) 83))
  have HF : Hid (¬ F w.heap.size) := h.fresh 0
  have HZ := hide hz
  clear h hz
  go_enter Tryz.func64, Tryz.ntmps64
  go_wp2_with fail
  rw [unhide HZ]
  obtain ⟨B, hB⟩ : ∃ B, B = w.heap.size := ⟨_, rfl⟩
  rw [← hB] at HB HF
  rw [← hB]
  have HBB := hide hB
  clear hB
  generalize w.alloc (.cells (lnV fun _ => 0) 83) = W at *
  refine (ris_any (unhide H1) _).mono ?_
  rintro e w1 ⟨rfl, rfl⟩
  have c2 := (unhide H1).c2
  rw [unhide HON] at c2
  have s8' : (Tryz.prog.info? 83).map (·.size) = some (lnV fun _ => 0).size := by rw [lnV_size]; exact lsize
  rw [D1]
  go_wp2_with (first | (refine wpList_build0 rfl 83 rfl _ line_zero ?_) | (refine wpList_store_row rfl 83 _ _ rfl B (lnV fun _ => 0) rfl rfl _ _ (unhide HB) s8' (by rw [lnV_size]) (lnV_one _) ?_))
  refine bodyPost_ret (v := .tuple #[.agg (lnV fun _ => 0), .int .i64 4]) (results_line Tryz.results64 _ _ B 83 (lnV fun _ => 0) (0, 0) _ _ rfl rfl (setRow_heap _ _ _ _ _ _ (unhide HB)) Tryz.underlying83 rfl s8') rfl ?_
  exact ⟨rfl, Keeps.setRow (unhide HK) (Or.inr (by rw [unhide HBB]; exact Nat.le_refl _)) _⟩

theorem rload_any (h : RRep w F b A gs cs gl ads caps) (hok : A.ok 1000) (z : Int) :
    Calls Tryz.prog 64 #[.pointer (some ⟨b, 0, none⟩), .int .i64 z] w (RLoaded w (.tuple #[.agg (lnV (A.hasZ z)), .int .i64 (A.loadE z)])) := by
  unfold Mm.hasZ Mm.loadE
  by_cases c : A.isZ z
  · rw [if_pos c]
    by_cases on : A.on = true
    · rw [if_pos ⟨c, on⟩, if_pos on]
      obtain ⟨c1, c2⟩ := c
      have := rload_good h z.toNat (by omega) on hok
      rw [show ((z.toNat : Nat) : Int) = z by omega] at this
      exact this
    · rw [if_neg (fun h => on h.2), if_neg on]
      exact rload_off h z c (by simpa using on)
  · rw [if_neg (fun h => c h.1), if_neg c]
    exact rload_bad h z c

/-! ### Evict -/
end

end Go.Proofs.YtinhnnnehhlceaaGreat


/-
  What the document's Flush and Fence do.
-/
namespace Go.Proofs.YtinhnnnehhlceaaGreat
open Go.ChangeShapes Go.WideShapes Go.ChangeAt Go.RowKit Go.Joins
set_option maxRecDepth 10000
set_option linter.unusedVariables false
set_option linter.unusedSimpArgs false

theorem step_off (A : Mm) (l : Nat → Ln) (h : A.may = false) : A.step l = A.off := by unfold Mm.step; rw [h]; rfl
theorem step_on (A : Mm) (l : Nat → Ln) (h : A.may = true) : A.step l = A.stepped l := by unfold Mm.step; rw [h]; rfl
theorem err_off (A : Mm) (h : A.may = false) : A.err = 4 := by unfold Mm.err; rw [h]; rfl
theorem err_on (A : Mm) (h : A.may = true) : A.err = 0 := by unfold Mm.err; rw [h]; rfl

def flF (f : Nat → Value) (c J : Nat) : Nat → Value := fun i => if i % 10 = 2 + c ∧ i / 10 < J then .bool true else f i

section
variable {w : World} {F : Nat → Prop} {b gs cs gl : Nat} {A : Mm} {ads : Nat → Option Nat} {caps : Nat → Nat}

/-- All stores of a line are flushed by a core. -/
theorem rflush_end {w' : World} (h : RRep w F b A gs cs gl ads caps) (k c : Nat) (hk : k < A.n) (hc : c < 8) (hK : Keeps (fun x => ads k = some x) w w')
    (hf : ∀ g N f, ads k = some g → Blk w g N 195 f → Blk w' g N 195 (flF f c (A.l k).t.length)) :
    ∃ F' ads' caps', RRep w' F' b ⟨A.n, upd A.l k ((A.l k).flush c), A.on, A.fuse, A.steps⟩ gs cs gl ads' caps' ∧ Keeps F w w' ∧ Grew F w F' := by
  obtain ⟨N, f, b1, b2, _, b3⟩ := h.sb
  refine ⟨_, _, _, h.line k hk ((A.l k).flush c) (ads k) (caps k) hK (fun x hx => Or.inr (Or.inr hx)) ⟨N, f, b1.keeps hK (fun e => (h.ap k hk _ e).2.1 rfl), b2, fun i hi => ?_⟩ ?_ ?_ (fun g hg => Or.inl hg), hK.mono fun x _ hx => (h.ap k hk x hx).2.2.2, fun x hx => Or.inl (hx.elim id fun e => (h.ap k hk x e).2.2.2)⟩
  · rw [b3 i hi]
    by_cases e : i / 8 = k
    · rw [e, upd_same]; rfl
    · rw [upd_other _ _ _ _ e]
  · refine (h.lb.keeps hK (fun e => (h.ap k hk _ e).2.2.1 rfl)).ext fun i _ => ?_
    by_cases e : i = k
    · subst e; rw [upd_same]; rfl
    · rw [upd_other _ _ _ _ e]
  · rcases h.row k hk with ⟨h1, h2, h3⟩ | ⟨g, N, f, h1, h2, h3, h4, h5, h6⟩
    · exact Or.inl ⟨h1, h2, h3⟩
    · refine Or.inr ⟨g, N, _, h1, hf g N f h1 h2, h3, h4, h5, fun j d hj hd => ?_⟩
      have hj' : j < (A.l k).t.length := hj
      unfold flF
      by_cases e : d = 2 + c
      · rw [if_pos ⟨by omega, by omega⟩, e]
        simp [doneAt, Ln.flush, show ¬ (2 + c = 0) by omega, show ¬ (2 + c = 1) by omega, upd, hj']
      · rw [if_neg (fun h => by omega), h6 j d hj' hd]
        unfold doneAt
        by_cases d0 : d = 0
        · simp [d0, Ln.flush]
        · by_cases d1 : d = 1
          · simp [d1, Ln.flush]
          · simp only [d0, d1, if_false]
            exact congrArg Value.bool (decide_eq_decide.2 (by show j < _ ↔ j < upd (A.l k).f c (A.l k).t.length (d - 2); rw [upd_other _ _ _ _ (by omega)]))

theorem rflush_good (h : RRep w F b A gs cs gl ads caps) (hok : A.ok 1000) (c k : Nat) (hc : c < 8) (hk : k < A.n) :
    Calls Tryz.prog 139 #[.pointer (some ⟨b, 0, none⟩), .int .i64 c, .int .i64 k] w (RWent F w b gs cs gl (A.flush c k) (.int .i64 A.err)) := by
  obtain ⟨o1, o2, o3, o4, o5, o6, o7⟩ := hok
  have D1 : decide ((0 : Int) ≤ (k : Int) ∧ (k : Int) < (A.n : Int)) = true := by simp; omega
  have hk' : (k : Int) < (A.n : Int) := by omega
  have hc' : ¬ ((7 : Int) < (c : Int)) := by omega
  have hc8 : (c : Int) < 8 := by omega
  have H := hide h
  have CT := hide (rstep_any h (by omega) o5 o6)
  clear h
  by_cases hm : A.may = true
  · have he := err_on A hm
    have HSF : Hid (A.flush c k = ⟨A.n, upd A.l k ((A.l k).flush c), (A.stepped A.l).on, (A.stepped A.l).fuse, (A.stepped A.l).steps⟩) := step_on A _ hm
    have HSL := hide (step_on A A.l hm)
    go_enter Tryz.func139, Tryz.ntmps139
    go_wp2_with fail
    refine (ris_any (unhide H) _).mono ?_
    rintro e w1 ⟨rfl, rfl⟩
    rw [D1]
    go_wp2_with fail
    refine (unhide CT).mono ?_
    rintro e w1 ⟨rfl, hr1, hk1⟩
    rw [unhide HSL] at hr1
    have HR1 := hide hr1
    have HK1 := hide hk1
    rw [he]
    clear hr1 hk1 CT
    have hlen := o4 k
    go_wp2_with fail
    go_loopw [8] (fun u wr => ∃ j : Nat, j ≤ (A.l k).t.length ∧ u = .int .i64 j ∧ Keeps (fun x => ads k = some x) w1 wr ∧ ∀ g N f, ads k = some g → Blk w1 g N 195 f → Blk wr g N 195 (flF f c j)) (fun u _ => (A.l k).t.length - (intOf u).toNat)
    case atStart => exact ⟨0, by omega, rfl, Keeps.refl _ _, fun g N f _ hb => hb.ext fun i _ => by unfold flF; rw [if_neg (by omega)]⟩
    case round =>
      obtain ⟨j, hj, rfl, hkr, hbr⟩ := hrel
      have c1 : wr.cell? ⟨b, 1, none⟩ = some (.slice (some ⟨gl, 0, none⟩) A.n A.n) := hkr.cellOf (unhide HR1).c1 (fun e => ((unhide HR1).ap k hk _ e).1 rfl)
      have cl : wr.cell? ⟨gl, k, none⟩ = some (.slice (slot0 (ads k)) (A.l k).t.length (caps k)) := hkr.cellOf ((unhide HR1).lc k hk) (fun e => ((unhide HR1).ap k hk _ e).2.2.1 rfl)
      have HKR := hide hkr
      have HBR := hide hbr
      clear hkr hbr
      by_cases hlt : j < (A.l k).t.length
      · obtain ⟨g, N, f, hg, hb, hN⟩ : ∃ g N f, ads k = some g ∧ Blk w1 g N 195 f ∧ (A.l k).t.length * 10 ≤ N := by
          rcases (unhide HR1).row k hk with ⟨_, _, h0⟩ | ⟨g, N, f, h1, h2, h3, _⟩
          · have h0' : (A.l k).t = [] := h0
            rw [h0'] at hlt; simp at hlt
          · exact ⟨g, N, f, h1, h2, h3⟩
        have hbj := unhide HBR g N f hg hb
        rw [hg] at cl
        have cl2 : wr.cell? ⟨gl, k, none⟩ = some (.slice (some ⟨g, 0, none⟩) (A.l k).t.length (caps k)) := cl
        have d1 : wr.cell? ⟨g, j * 10 + 2 + c, none⟩ = some (flF f c j (j * 10 + 2 + c)) := hbj.cell _ (by omega)
        have d2 : wr.frozen? ⟨g, j * 10 + 2 + c, none⟩ = false := hbj.free _
        generalize flF f c j (j * 10 + 2 + c) = old at *
        have hlt' : (j : Int) < ((A.l k).t.length : Int) := by omega
        have HG := hide hg
        clear hb hbj cl hg
        generalize (A.l k).t.length = len at *
        go_wp2_with fail
        go_roundw
        case rel =>
          refine ⟨j + 1, by omega, by go_num, Keeps.setCell (F := fun x => ads k = some x) (p := ⟨g, j * 10 + 2 + c, none⟩) (unhide HKR) (unhide HG) _, fun g2 N2 f2 h1 h2 => ?_⟩
          have e : g2 = g := by have := h1.symm.trans (unhide HG); simpa using this
          subst e
          refine ((unhide HBR g2 N2 f2 h1 h2).set _ _).ext fun i _ => ?_
          unfold flF
          by_cases hi : i = j * 10 + 2 + c
          · subst hi; rw [upd_same, if_pos (by omega)]
          · rw [upd_other _ _ _ _ hi]
            by_cases h3 : i % 10 = 2 + c ∧ i / 10 < j
            · rw [if_pos h3, if_pos (by omega)]
            · rw [if_neg h3, if_neg (by omega)]
        case measure => simp [intOf]; omega
      · obtain rfl : j = (A.l k).t.length := by omega
        have END : Hid (∃ F' ads' caps', RRep wr F' b ⟨A.n, upd A.l k ((A.l k).flush c), (A.stepped A.l).on, (A.stepped A.l).fuse, (A.stepped A.l).steps⟩ gs cs gl ads' caps' ∧ Keeps F w1 wr ∧ Grew F w1 F') :=
          rflush_end (unhide HR1) k c hk hc (unhide HKR) (fun g N f h1 h2 => unhide HBR g N f h1 h2)
        clear HBR HKR
        have hge : ¬ (((A.l k).t.length : Int) < ((A.l k).t.length : Int)) := by omega
        go_wp2_with fail
        go_ret
        obtain ⟨F', ads', caps', r1, r2, r3⟩ := unhide END
        rw [unhide HSF]
        exact ⟨rfl, F', ads', caps', r1, (unhide HK1).trans' r2, fun x hx => (r3 x hx).imp id fun h => Nat.le_trans (unhide HK1).size h⟩
  · have hm' : A.may = false := by simpa using hm
    have he := err_off A hm'
    have HSF : Hid (A.flush c k = A.off) := step_off A _ hm'
    have HSL := hide (step_off A A.l hm')
    go_enter Tryz.func139, Tryz.ntmps139
    go_wp2_with fail
    refine (ris_any (unhide H) _).mono ?_
    rintro e w1 ⟨rfl, rfl⟩
    rw [D1]
    go_wp2_with fail
    refine (unhide CT).mono ?_
    rintro e w1 ⟨rfl, hr1, hk1⟩
    rw [unhide HSL] at hr1
    have HR1 := hide hr1
    have HK1 := hide hk1
    rw [he]
    clear hr1 hk1 CT
    go_wp2_with fail
    go_ret
    rw [he, unhide HSF]
    exact ⟨rfl, F, ads, caps, unhide HR1, unhide HK1, Grew.refl _ _⟩

theorem rflush_bad (h : RRep w F b A gs cs gl ads caps) (y z : Int) (hz : ¬ (is8 y ∧ A.isZ z)) :
    Calls Tryz.prog 139 #[.pointer (some ⟨b, 0, none⟩), .int .i64 y, .int .i64 z] w (RWent F w b gs cs gl A (.int .i64 1)) := by
  have H := hide h
  clear h
  by_cases y0 : y < 0
  · go_enter Tryz.func139, Tryz.ntmps139
    go_wp2_with fail
    go_ret
    exact ⟨rfl, F, ads, caps, unhide H, Keeps.refl _ _, Grew.refl _ _⟩
  · by_cases y7 : 7 < y
    · go_enter Tryz.func139, Tryz.ntmps139
      go_wp2_with fail
      go_ret
      exact ⟨rfl, F, ads, caps, unhide H, Keeps.refl _ _, Grew.refl _ _⟩
    · have h1 : ¬ (0 ≤ z ∧ z < A.n) := fun h => hz ⟨⟨by omega, by omega⟩, h⟩
      have D1 : decide ((0 : Int) ≤ z ∧ z < (A.n : Int)) = false := by simpa using h1
      clear h1 hz
      go_enter Tryz.func139, Tryz.ntmps139
      go_wp2_with fail
      refine (ris_any (unhide H) _).mono ?_
      rintro e w1 ⟨rfl, rfl⟩
      rw [D1]
      go_wp2_with fail
      go_ret
      exact ⟨rfl, F, ads, caps, unhide H, Keeps.refl _ _, Grew.refl _ _⟩

theorem rflush_any (h : RRep w F b A gs cs gl ads caps) (hok : A.ok 1000) (y z : Int) :
    Calls Tryz.prog 139 #[.pointer (some ⟨b, 0, none⟩), .int .i64 y, .int .i64 z] w (RWent F w b gs cs gl (A.flushZ y z) (.int .i64 (A.flushE y z))) := by
  unfold Mm.flushZ Mm.flushE
  by_cases c : is8 y ∧ A.isZ z
  · rw [if_pos c, if_pos c]
    obtain ⟨⟨c1, c2⟩, c3, c4⟩ := c
    have := rflush_good h hok y.toNat z.toNat (by omega) (by omega)
    rw [show ((y.toNat : Nat) : Int) = y by omega, show ((z.toNat : Nat) : Int) = z by omega] at this
    exact this
  · rw [if_neg c, if_neg c]
    exact rflush_bad h y z c

/-! ### Fence -/
theorem RRep.lines {A' : Mm} (h : RRep w F b A gs cs gl ads caps) (hn : A'.n = A.n) (h1 : A'.on = A.on) (h2 : A'.fuse = A.fuse) (h3 : A'.steps = A.steps) (hl : ∀ i, i < A.n → A'.l i = A.l i) : RRep w F b A' gs cs gl ads caps := by
  obtain ⟨N, f, b1, b2, b3, b4⟩ := h.sb
  refine ⟨?_, ⟨N, f, b1, by rw [hn]; exact b2, by rw [hn]; exact b3, fun i hi => ?_⟩, ?_, ?_, h.d1, h.d2, h.d3, ?_, ?_, h.fb, h.fs, h.fl, h.lt⟩
  · have : rhead A' gs cs gl = rhead A gs cs gl := by unfold rhead; rw [hn, h1, h2, h3]
    rw [this]; exact h.hd
  · rw [hn] at hi
    rw [hl (i / 8) (by omega)]; exact b4 i hi
  · rw [hn]
    refine h.lb.ext fun i hi => ?_
    unfold rrowF; rw [hl i hi]
  · intro i hi
    rw [hn] at hi
    rw [hl i hi]; exact h.row i hi
  · intro i hi; rw [hn] at hi; exact h.ap i hi
  · intro i j hi hj; rw [hn] at hi hj; exact h.dj i j hi hj

theorem rfence_good (h : RRep w F b A gs cs gl ads caps) (hok : A.ok 1000) (c : Nat) (hc : c < 8) :
    Calls Tryz.prog 141 #[.pointer (some ⟨b, 0, none⟩), .int .i64 c] w (RWent F w b gs cs gl (A.fence c) (.int .i64 A.err)) := by
  obtain ⟨o1, o2, o3, o4, o5, o6, o7⟩ := hok
  have hc' : ¬ ((7 : Int) < (c : Int)) := by omega
  have hc8 : (c : Int) < 8 := by omega
  have H := hide h
  have CT := hide (rstep_any h (by omega) o5 o6)
  clear h
  by_cases hm : A.may = true
  · have he := err_on A hm
    have HSF : Hid (A.fence c = ⟨A.n, fun i => (A.l i).settle ((A.l i).f c), (A.stepped A.l).on, (A.stepped A.l).fuse, (A.stepped A.l).steps⟩) := step_on A _ hm
    have HSL := hide (step_on A A.l hm)
    go_enter Tryz.func141, Tryz.ntmps141
    go_wp2_with fail
    refine (unhide CT).mono ?_
    rintro e w1 ⟨rfl, hr1, hk1⟩
    rw [unhide HSL] at hr1
    have HR1 := hide hr1
    have HK1 := hide hk1
    rw [he]
    clear hr1 hk1 CT
    go_wp2_with fail
    go_loopw [6] (fun u wr => ∃ k : Nat, k ≤ A.n ∧ u = .int .i64 k ∧ ∃ Fr ar cr, RRep wr Fr b ⟨A.n, fenceTo A c k, (A.stepped A.l).on, (A.stepped A.l).fuse, (A.stepped A.l).steps⟩ gs cs gl ar cr ∧ Keeps F w1 wr ∧ Grew F w1 Fr) (fun u _ => A.n - (intOf u).toNat)
    case atStart =>
      refine ⟨0, by omega, rfl, F, ads, caps, ?_, Keeps.refl _ _, Grew.refl _ _⟩
      have : fenceTo A c 0 = A.l := by funext i; simp [fenceTo]
      rw [this]; exact unhide HR1
    case round =>
      obtain ⟨k, hk, rfl, Fr, ar, cr, hr, hkr, hgr⟩ := hrel
      have c0 : wr.cell? ⟨b, 0, none⟩ = some (.slice (some ⟨gs, 0, none⟩) A.n cs) := hr.c0
      have HR := hide hr
      have HKR := hide hkr
      have HGR := hide hgr
      clear hr hkr hgr
      by_cases hlt : k < A.n
      · have c1 : wr.cell? ⟨b, 1, none⟩ = some (.slice (some ⟨gl, 0, none⟩) A.n A.n) := (unhide HR).c1
        have hlk : fenceTo A c k k = A.l k := by simp [fenceTo]
        have cl : wr.cell? ⟨gl, k, none⟩ = some (.slice (slot0 (ar k)) (A.l k).t.length (cr k)) := by have := (unhide HR).lc k hlt; simp only [hlk] at this; exact this
        have hlt' : (k : Int) < (A.n : Int) := by omega
        have hlen := o4 k
        have hfk := (o3 k).2.2 c
        obtain ⟨len, hle⟩ : ∃ len, len = (A.l k).t.length := ⟨_, rfl⟩
        obtain ⟨fk, hfe⟩ : ∃ fk, fk = (A.l k).f c := ⟨_, rfl⟩
        rw [← hle] at cl hlen hfk
        rw [← hfe] at hfk
        have HLE := hide hle
        have HFE := hide hfe
        have CELLS : Hid (∀ j, j < len → ∃ g, slot0 (ar k) = some ⟨g, 0, none⟩ ∧ wr.cell? ⟨g, j * 10 + 2 + c, none⟩ = some (.bool (decide (j < fk)))) := fun j hj => by
          obtain ⟨g, hg, -, -, hcc⟩ := (unhide HR).st k hlt j (by simp only [hlk]; rw [← hle]; exact hj)
          refine ⟨g, by rw [hg]; rfl, ?_⟩
          have := (hcc c hc).1
          simp only [hlk] at this
          rw [← hfe] at this; exact this
        have CS : Hid (Calls Tryz.prog 165 #[.pointer (some ⟨b, 0, none⟩), .int .i64 k, .int .i64 fk] wr (RWent Fr wr b gs cs gl ⟨A.n, fenceTo A c (k + 1), (A.stepped A.l).on, (A.stepped A.l).fuse, (A.stepped A.l).steps⟩ (.tuple #[]))) := by
          have := rsure_any (unhide HR) k fk hlt (by simp only [hlk]; rw [← hle]; exact hfk) (by simp only [hlk]; exact o3 k) o2 (by simp only [hlk]; rw [← hle]; omega)
          have e : upd (fenceTo A c k) k ((A.l k).settle fk) = fenceTo A c (k + 1) := by
            funext i
            unfold fenceTo
            by_cases hi : i = k
            · subst hi; rw [upd_same, if_pos (by omega), hfe]
            · rw [upd_other _ _ _ _ hi]
              by_cases h2 : i < k
              · rw [if_pos h2, if_pos (by omega)]
              · rw [if_neg h2, if_neg (by omega)]
          simp only [hlk, e] at this
          exact this
        have HZERO : Hid (fk = 0 → fenceTo A c (k + 1) = fenceTo A c k) := fun h0 => by
          funext i
          unfold fenceTo
          by_cases hi : i = k
          · subst hi; rw [if_pos (by omega), if_neg (by omega), ← hfe, h0, Ln.settle_zero]
          · by_cases h2 : i < k
            · rw [if_pos h2, if_pos (by omega)]
            · rw [if_neg h2, if_neg (by omega)]
        clear hlk hle hfe
        go_wp2_with fail
        go_loopw [7, 8] (fun m u wi => ∃ j : Nat, j ≤ len ∧ u = .int .i64 j ∧ m = .int .i64 ((min j fk : Nat) : Int) ∧ wi = wr) (fun _ u _ => len - (intOf u).toNat)
        case atStart => exact ⟨0, by omega, rfl, by rw [Nat.zero_min]; rfl, rfl⟩
        case round =>
          obtain ⟨j, hj, rfl, rfl, rfl⟩ := hrel
          by_cases hjl : j < len
          · obtain ⟨g, hg, hcell⟩ := unhide CELLS j hjl
            rw [hg] at cl
            have hjl' : (j : Int) < (len : Int) := by omega
            by_cases hjf : j < fk
            · rw [decide_eq_true hjf] at hcell
              go_wp2_with fail
              go_roundw
              case rel => exact ⟨j + 1, by omega, by go_num, by first | go_num | (congr 1; omega), trivial⟩
              case measure => simp [intOf]; omega
            · rw [decide_eq_false hjf] at hcell
              go_wp2_with fail
              go_roundw
              case rel => exact ⟨j + 1, by omega, by go_num, by first | go_num | (congr 1; omega), trivial⟩
              case measure => simp [intOf]; omega
          · have hjl' : ¬ ((j : Int) < (len : Int)) := by omega
            rw [show min j fk = fk by omega]
            clear CELLS
            by_cases hf0 : fk = 0
            · have HZ := hide (unhide HZERO hf0)
              subst hf0
              go_wp2_with fail
              go_roundw
              case rel => exact ⟨k + 1, by omega, by go_num, Fr, ar, cr, by rw [unhide HZ]; exact unhide HR, unhide HKR, unhide HGR⟩
              case measure => simp [intOf]; omega
            · have hf0' : (0 : Int) < (fk : Int) := by omega
              go_wp2_with fail
              refine (unhide CS).mono ?_
              rintro e w5 ⟨rfl, F5, a5, c5, r1, r2, r3⟩
              have R1 := hide r1
              have R2 := hide r2
              have R3 := hide r3
              clear r1 r2 r3
              go_wp2_with fail
              go_roundw
              case rel => exact ⟨k + 1, by omega, by go_num, F5, a5, c5, unhide R1, (unhide HKR).trans (unhide HGR) (unhide R2), (unhide HGR).trans (unhide HKR).size (unhide R3)⟩
              case measure => simp [intOf]; omega
      · have hge : ¬ ((k : Int) < (A.n : Int)) := by omega
        obtain rfl : k = A.n := by omega
        go_wp2_with fail
        go_ret
        rw [unhide HSF]
        exact ⟨rfl, Fr, ar, cr, (unhide HR).lines rfl rfl rfl rfl (fun i hi => by simp [fenceTo, show i < A.n from hi]), (unhide HK1).trans' (unhide HKR), fun x hx => (unhide HGR x hx).imp id fun h => Nat.le_trans (unhide HK1).size h⟩
  · have hm' : A.may = false := by simpa using hm
    have he := err_off A hm'
    have HSF : Hid (A.fence c = A.off) := step_off A _ hm'
    have HSL := hide (step_off A A.l hm')
    go_enter Tryz.func141, Tryz.ntmps141
    go_wp2_with fail
    refine (unhide CT).mono ?_
    rintro e w1 ⟨rfl, hr1, hk1⟩
    rw [unhide HSL] at hr1
    have HR1 := hide hr1
    have HK1 := hide hk1
    rw [he]
    clear hr1 hk1 CT
    go_wp2_with fail
    go_ret
    first | rw [he, unhide HSF] | rw [unhide HSF]
    exact ⟨rfl, F, ads, caps, unhide HR1, unhide HK1, Grew.refl _ _⟩

theorem rfence_any (h : RRep w F b A gs cs gl ads caps) (hok : A.ok 1000) (y : Int) :
    Calls Tryz.prog 141 #[.pointer (some ⟨b, 0, none⟩), .int .i64 y] w (RWent F w b gs cs gl (A.fenceZ y) (.int .i64 (A.fenceE y))) := by
  by_cases c : is8 y
  · unfold Mm.fenceZ Mm.fenceE
    rw [if_pos c, if_pos c]
    obtain ⟨c1, c2⟩ := c
    have := rfence_good h hok y.toNat (by omega)
    rw [show ((y.toNat : Nat) : Int) = y by omega] at this
    exact this
  · have HE : Hid (A.fenceE y = 1) := by show _ = _; unfold Mm.fenceE; rw [if_neg c]
    have HZ : Hid (A.fenceZ y = A) := by show _ = _; unfold Mm.fenceZ; rw [if_neg c]
    have H := hide h
    clear h
    by_cases y0 : y < 0
    · clear c
      go_enter Tryz.func141, Tryz.ntmps141
      go_wp2_with fail
      go_ret
      rw [unhide HE, unhide HZ]
      exact ⟨rfl, F, ads, caps, unhide H, Keeps.refl _ _, Grew.refl _ _⟩
    · have y7 : 7 < y := by
        rcases Int.lt_or_le 7 y with h | h
        · exact h
        · exact absurd ⟨by omega, by omega⟩ c
      clear c
      go_enter Tryz.func141, Tryz.ntmps141
      go_wp2_with fail
      go_ret
      rw [unhide HE, unhide HZ]
      exact ⟨rfl, F, ads, caps, unhide H, Keeps.refl _ _, Grew.refl _ _⟩
end

end Go.Proofs.YtinhnnnehhlceaaGreat


/-
  What the document's Crash does.
-/
namespace Go.Proofs.YtinhnnnehhlceaaGreat
open Go.ChangeShapes Go.WideShapes Go.ChangeAt Go.RowKit Go.Joins
set_option maxRecDepth 10000
set_option linter.unusedVariables false
set_option linter.unusedSimpArgs false

section
variable {w : World} {F : Nat → Prop} {b gs cs gl : Nat} {A : Mm} {ads : Nat → Option Nat} {caps : Nat → Nat}

/-- A line's row of stores is nil. -/
theorem RRep.lost (h : RRep w F b A gs cs gl ads caps) (k : Nat) (hk : k < A.n) : ∃ ads' caps', RRep (w.setCell ⟨gl, k, none⟩ (.slice none 0 0)) F b ⟨A.n, upd A.l k (A.l k).lose, A.on, A.fuse, A.steps⟩ gs cs gl ads' caps' := by
  have hK : Keeps (· = gl) w (w.setCell ⟨gl, k, none⟩ (.slice none 0 0)) := Keeps.setCell (F := (· = gl)) (p := ⟨gl, k, none⟩) (Keeps.refl _ _) rfl _
  obtain ⟨N, f, b1, b2, _, b3⟩ := h.sb
  have h1 := h.line k hk (A.l k).lose none 0 hK (fun x hx => Or.inr (Or.inl hx)) ⟨N, f, b1.keeps hK h.d3, b2, fun i hi => by
    rw [b3 i hi]
    by_cases e : i / 8 = k
    · rw [e, upd_same]; rfl
    · rw [upd_other _ _ _ _ e]⟩ (h.lb.set k _) (Or.inl ⟨rfl, rfl, rfl⟩) (fun g hg => by simp at hg)
  refine ⟨upd ads k none, upd caps k 0, ?_⟩
  exact ⟨h1.hd, h1.sb, h1.lb, h1.row, h1.d1, h1.d2, h1.d3, fun i hi g hg => ⟨(h1.ap i hi g hg).1, (h1.ap i hi g hg).2.1, (h1.ap i hi g hg).2.2.1, (h1.ap i hi g hg).2.2.2.elim id (fun e => by simp at e)⟩, h1.dj, h.fb, h.fs, h.fl, fun x hx => h1.lt x (Or.inl hx)⟩

end

end Go.Proofs.YtinhnnnehhlceaaGreat


/-
  What the document's Of and New make.
-/
namespace Go.Proofs.YtinhnnnehhlceaaGreat
open Go.ChangeShapes Go.WideShapes Go.ChangeAt Go.RowKit Go.Joins
set_option maxRecDepth 10000
set_option linter.unusedVariables false
set_option linter.unusedSimpArgs false

theorem wp_make_full {P : Program} {w : World} {o : Oper} {a : Act} {K : Act → World → Prop} {Q : Exit → Act → World → Prop}
    (l c : Operand) (t : TypeId) (hop : o.op = Op.makeSlice t l c)
    (base : Nat) (e : TypeId) (i : TypeInfo) (z : Value) (size : Nat) (h1 : P.underlying t = some (.slice e)) (h2 : P.info? e = some i) (h3 : i.zero = some z) (h4 : i.size = size)
    (n : Nat) (hl : a.eval l = .int .i64 (n : Int)) (hc : a.eval c = .int .i64 (n : Int)) (b2 : i.bytes * n ≤ 281474976710656) (b3 : n ≤ maxLen) (b4 : base ≤ w.heap.size)
    (hK : ∀ w', w'.ownsRow base e size (.slice (some ⟨w.heap.size, 0, none⟩) n n) n (madeCells z.cells (n * size)).toList → w.grownBy w' none → K (a.put o.dst (.slice (some ⟨w.heap.size, 0, none⟩) n n)) w') : o.wp P a w K Q := by
  obtain ⟨w', hrun, r1, r2⟩ := run_make_full (P := P) w base t e i z size h1 h2 h3 h4 .i64 .i64 n b2 b3 b4
  unfold Oper.wp
  simp [execOp, hop, hl, hc, hrun, Result.andThen]
  exact hK w' r1 r2
theorem info_dones : (Tryz.prog.info? 185).map (fun i => (i.zero, i.size, i.bytes)) = some (some (.slice none 0 0), 1, 24) := by kernel_rfl
theorem built_ref (gs n cs gl : Nat) : Tryz.prog.built 79 [(0, .slice (some ⟨gs, 0, none⟩) n cs), (1, .slice (some ⟨gl, 0, none⟩) n n), (3, .int .i64 (-1))] = some #[.slice (some ⟨gs, 0, none⟩) n cs, .slice (some ⟨gl, 0, none⟩) n n, .bool false, .int .i64 (-1), .int .i64 0] := by kernel_rfl

def RMade (w : World) (n : Nat) (s : Nat → Nat → Int) (e : Ending) (w' : World) : Prop :=
  ∃ b gs cs gl F ads caps, e = .returned (.tuple #[.pointer (some ⟨b, 0, none⟩), .int .i64 0]) ∧ RRep w' F b (Mm.new n s) gs cs gl ads caps ∧ Keeps (fun _ => False) w w' ∧ ∀ k, F k → w.heap.size ≤ k

theorem rmake {w w5 : World} {n gs cs gl : Nat} {s : Nat → Nat → Int} (hk : Keeps (fun _ => False) w w5) (hs1 : w.heap.size ≤ gs) (hl1 : w.heap.size ≤ gl) (hgg : gs ≠ gl) (hsr : ∀ i, i < n → w5.rangeAt gs (i * 8) ((List.range 8).map fun j => .int .u64 (s i j)))
    (hgs : ∃ cur, w5.heap[gs]? = some (.cells cur 83 (0, 0)) ∧ n * 8 ≤ cur.size) (hcs : n ≤ cs) (hlb : Blk w5 gl n 185 (fun _ => .slice none 0 0)) :
    RMade w n s (.returned (.tuple #[.pointer (some ⟨w5.heap.size, 0, none⟩), .int .i64 0])) (w5.alloc (.cells #[.slice (some ⟨gs, 0, none⟩) n cs, .slice (some ⟨gl, 0, none⟩) n n, .bool false, .int .i64 (-1), .int .i64 0] 79)) := by
  obtain ⟨cur, hcur, hsz⟩ := hgs
  have hgsl := lt_of_block hcur
  have hgll := hlb.lt
  have hct : cur = tab cur.size (fun i => cur.getD i undef) := by
    apply Array.ext_getElem?
    intro i
    by_cases hi : i < cur.size
    · rw [tab_get _ _ _ hi]; simp [Array.getD, hi]
    · rw [tab_none _ _ _ (by omega), Array.getElem?_eq_none (by omega)]
  have hbs : Blk w5 gs cur.size 83 (fun i => cur.getD i undef) := Blk.of_tab (by rw [← hct]; exact hcur)
  refine ⟨w5.heap.size, gs, cs, gl, fun x => x = w5.heap.size ∨ x = gs ∨ x = gl, fun _ => none, fun _ => 0, rfl, ⟨heap_new w5 _, ⟨cur.size, _, hbs.alloc _, hsz, hcs, fun i hi => ?_⟩, hlb.alloc _, fun i _ => Or.inl ⟨rfl, rfl, rfl⟩, by omega, by omega, hgg, fun i _ g hg => by simp at hg, fun i j _ _ _ g hg => by simp at hg, Or.inl rfl, Or.inr (Or.inl rfl), Or.inr (Or.inr rfl), fun x hx => ?_⟩, hk.alloc _, fun x hx => ?_⟩
  · have h1 : i < n * 8 := hi
    have := hsr (i / 8) (by omega) (i % 8) (.int .u64 (s (i / 8) (i % 8))) (by simp [show i % 8 < 8 by omega])
    rw [cell_of_block hcur, show i / 8 * 8 + i % 8 = i by omega] at this
    show cur.getD i undef = _
    rw [Array.getD_eq_getD_getElem?, this]; rfl
  · rcases hx with rfl | rfl | rfl
    · simp
    · simp; omega
    · simp; omega
  · rcases hx with rfl | rfl | rfl
    · exact hk.size
    · exact hs1
    · exact hl1

/-- A row of lines that the call itself owns, with its block. -/
theorem own_lines2 {w : World} {base : Nat} {v : Value} {n : Nat} {s : Nat → Nat → Int} (h : w.ownsRow base 83 8 v n (linesV n s)) (hv : v ≠ .slice none 0 0) :
    ∃ g cap, v = .slice (some ⟨g, 0, none⟩) n cap ∧ base ≤ g ∧ n ≤ cap ∧ (∀ i, i < n → w.rangeAt g (i * 8) ((List.range 8).map fun j => .int .u64 (s i j))) ∧ ∃ cur, w.heap[g]? = some (.cells cur 83 (0, 0)) ∧ n * 8 ≤ cur.size := by
  obtain ⟨g, cap, rfl, h1, h2, h3, h4, h5⟩ := own_lines h hv
  refine ⟨g, cap, rfl, h1, h3, h4, ?_⟩
  rcases h.2 with ⟨h', _⟩ | ⟨g', cap', cur, h', _, hg, hnc, _, hcs, _⟩
  · simp at h'
  · simp only [Value.slice.injEq, Option.some.injEq, Addr.mk.injEq, and_true, true_and] at h'
    obtain ⟨rfl, rfl⟩ := h'
    exact ⟨cur, hg, by omega⟩
theorem made_dones {w : World} {base g n : Nat} (h : w.ownsRow base 185 1 (.slice (some ⟨g, 0, none⟩) n n) n (madeCells (Value.slice none 0 0).cells (n * 1)).toList) : Blk w g n 185 (fun _ => .slice none 0 0) := by
  have := made_blk h (f := fun _ => .slice none 0 0) fun i _ => by
    show (#[Value.slice none 0 0] : Array Value)[i % 1]! = _
    rw [Nat.mod_one]; rfl
  rw [Nat.mul_one] at this
  exact this

theorem rof_any (w : World) (x : Addr) (n cap : Nat) (s : Nat → Nat → Int) (hn : 64 ≤ n) (hn2 : n ≤ 1024) (hc : ∀ j u, (linesV n s)[j]? = some u → w.cell? (x.add j) = some u) (hx : x.spot = none) :
    Calls Tryz.prog 10 #[.slice (some x) n cap] w (RMade w n s) := by
  have n64 : ¬ ((n : Int) < 64) := by omega
  have n1024 : ¬ ((1024 : Int) < (n : Int)) := by omega
  obtain ⟨xb, xo, xs⟩ := x
  obtain rfl : xs = none := hx
  have HC : Hid (∀ w' : World, Keeps (fun _ => False) w w' → ∀ j u, (linesV n s)[j]? = some u → w'.cell? ((⟨xb, xo, none⟩ : Addr).add j) = some u) := fun w' hk j u hj => by
    have := hc j u hj
    rw [Addr.add_mid] at this ⊢
    exact hk.cellOf this id
  clear hc
  go_enter Tryz.func10, Tryz.ntmps10
  go_wp2_with fail
  refine wp_region_noPanic ?_
  refine wp_region_held_drew (S := fun w' => Keeps (fun _ => False) w w') (by kernel_rfl) ((Keeps.refl _ _).drew) (fun hHeld => ?_)
  refine take_at 1 13 (v := ?_) rfl rfl (by kernel_rfl) (by kernel_rfl) (by kernel_rfl) (Or.inl ⟨by rfl, ?_⟩) hHeld ?_
  rotate_left
  · intro w hSw; go_simp; with_reducible rfl
  simp only [Act.put, List.setIfInBounds_toArray, List.set_cons_zero, List.set_cons_succ]
  refine take_at 3 15 (v := ?_) rfl rfl (by kernel_rfl) (by kernel_rfl) (by kernel_rfl) (Or.inl ⟨by rfl, ?_⟩) hHeld ?_
  rotate_left
  · intro w hSw; go_simp; with_reducible rfl
  simp only [Act.put, List.setIfInBounds_toArray, List.set_cons_zero, List.set_cons_succ]
  refine take_at 4 16 (v := ?_) rfl rfl (by kernel_rfl) (by kernel_rfl) (by kernel_rfl) (Or.inl ⟨by rfl, ?_⟩) hHeld ?_
  rotate_left
  · intro w hSw; go_simp; with_reducible rfl
  simp only [Act.put, List.setIfInBounds_toArray, List.set_cons_zero, List.set_cons_succ]
  generalize w.drew = V at *
  refine wpAnyH_ready (rs := [0, 5]) (by kernel_rfl) (by simp) ?_
  refine AllReadyH.cons rfl (fun K hK => ?_) (AllReadyH.cons rfl (fun K hK => ?_) AllReadyH.nil)
  · skip
    go_simp
    have OW : Hid ((V.alloc (.cells #[] 83)).ownsRow w.heap.size 83 8 (.slice (some ⟨V.heap.size, 0, none⟩) 0 0) 0 []) := World.ownsRow_lit (base := w.heap.size) (e := 83) (size := 8) V #[] 0 hHeld.size (by decide) rfl
    refine hK.out _ _ (hHeld.alloc _) (fun hNew => ?_)
    clear hK K
    have HEW : Hid (w.heap.size ≤ V.heap.size) := hHeld.size
    have hEl : V.heap.size < (V.alloc (.cells #[] 83)).heap.size := by simp

    obtain ⟨E, hE⟩ : ∃ E, E = V.heap.size := ⟨_, rfl⟩
    rw [← hE] at OW HEW hEl ⊢
    clear hHeld
    have hHeld := hNew
    clear hNew

    clear hE
    generalize V.alloc (.cells #[] 83) = V1 at *
    refine wpAnyH_ready (rs := [2, 5]) (by kernel_rfl) (by simp) ?_
    refine AllReadyH.cons rfl (fun K hK => ?_) (AllReadyH.cons rfl (fun K hK => ?_) AllReadyH.nil)
    · skip
      refine (if_pos (by rfl)).mpr ?_
      obtain ⟨i0, hi, hz0, hz1, hz2⟩ := info_parts info_line
      refine wp_append_own _ (.tmp 12) (.tmp 13) 35 rfl w.heap.size 83 i0 _ 8 64 Tryz.underlying35 hi hz0 hz1 hz2 rfl (by decide) (.slice (some ⟨E, 0, none⟩) 0 0) 0 [] rfl (unhide OW) ⟨xb, xo, none⟩ n cap (linesV n s) rfl (linesV_len n s) (unhide HC _ hHeld) (linesV_one n s) (by unfold maxLen; omega) (by omega) hHeld.size ?_
      intro v' w4 hown hgr hnil
      rw [Nat.zero_add, List.nil_append] at hown
      obtain ⟨gs, cs, rfl, g1, g2, g3, g4⟩ := own_lines2 hown (fun h => by have := hnil.1 h; simp at this)
      have GS1 := hide g1
      have GS2 := hide g2
      have GS3 := hide g3
      have GS4 := hide g4
      clear hown hnil g1 g2 g3 g4 hi hz0 hz1 hz2 i0 OW
      have hK4 : Keeps (fun _ => False) w w4 := Keeps.grown hHeld hgr (fun k hk => by simp [Value.ownBlock] at hk; right; have := unhide HEW; omega)
      refine hK.out _ _ hK4 (fun hNew => ?_)
      clear hK K hHeld hgr
      have hHeld := hNew
      clear hNew hK4
      refine wpAnyH_ready (rs := [5]) (by kernel_rfl) (by simp) ?_
      refine AllReadyH.cons rfl (fun K hK => ?_) AllReadyH.nil
      refine (if_pos (by rfl)).mpr ?_
      obtain ⟨i1, hi1, hz10, hz11, hz12⟩ := info_parts info_dones
      refine wp_make_full (.tmp 16) (.tmp 16) 77 rfl w.heap.size 185 i1 _ 1 Tryz.underlying77 hi1 hz10 hz11 n rfl rfl (by rw [hz12]; omega) (by unfold maxLen; omega) hHeld.size ?_
      intro w5 hownl hgrl
      have BL := hide (made_dones hownl)
      clear hownl hi1 hz10 hz11 hz12 i1
      have hK5 : Keeps (fun _ => False) w4 w5 := Keeps.grown (Keeps.refl _ _) hgrl (fun k hk => by simp at hk)
      have GL1 : Hid (w.heap.size ≤ w4.heap.size) := hHeld.size
      refine hK.out _ _ (hHeld.trans' hK5) (fun hNew => ?_)
      clear hK K hHeld hgrl
      have hHeld := hNew
      clear hNew
      have GS3' : Hid (∀ i, i < n → w5.rangeAt gs (i * 8) ((List.range 8).map fun j => .int .u64 (s i j))) := fun i hi => rangeAt_keeps (unhide GS3 i hi) hK5 id
      have GS4' : Hid (∃ cur, w5.heap[gs]? = some (.cells cur 83 (0, 0)) ∧ n * 8 ≤ cur.size) := by
        obtain ⟨cur, h1, h2⟩ := unhide GS4
        exact ⟨cur, (hK5.block gs (lt_of_block h1) id).trans h1, h2⟩
      clear GS3 GS4 hK5
      have GS3 := GS3'
      have GS4 := GS4'
      clear GS3' GS4'
      obtain ⟨gl, hgl⟩ : ∃ gl, gl = w4.heap.size := ⟨_, rfl⟩
      rw [← hgl] at BL GL1 ⊢
      clear hgl
      generalize w5 = Z at *
      have hgg : gs ≠ gl := fun e => by
        obtain ⟨cur, h1, _⟩ := unhide GS4
        obtain ⟨cur2, h2, _⟩ := unhide BL
        rw [← e, h1] at h2
        simp at h2
      simp only [Act.put, List.setIfInBounds_toArray]
      refine take_at 6 18 (v := ?_) rfl rfl (by kernel_rfl) (by kernel_rfl) (by kernel_rfl) (Or.inl ⟨by rfl, ?_⟩) hHeld ?_
      rotate_left
      · intro w hSw; go_simp; with_reducible rfl
      simp only [Act.put, List.setIfInBounds_toArray, List.set_cons_zero, List.set_cons_succ]
      refine wpAnyH_ready (rs := [7]) (by kernel_rfl) (by simp) ?_
      refine AllReadyH.cons rfl (fun K hK => ?_) AllReadyH.nil
      go_simp
      refine hK.out _ _ (hHeld.alloc _) (fun hNew => ?_)
      clear hK K
      have HKZ := hide hHeld
      clear hHeld
      have hHeld := hNew
      clear hNew
      refine take_at 8 2 (v := ?_) rfl rfl (by kernel_rfl) (by kernel_rfl) (by kernel_rfl) (Or.inl ⟨by rfl, ?_⟩) hHeld ?_
      rotate_left
      · intro w hSw; go_simp; with_reducible rfl
      simp only [Act.put, List.setIfInBounds_toArray, List.set_cons_zero, List.set_cons_succ]
      refine take_at 9 3 (v := ?_) rfl rfl (by kernel_rfl) (by kernel_rfl) (by kernel_rfl) (Or.inl ⟨by rfl, ?_⟩) hHeld ?_
      rotate_left
      · intro w hSw; go_simp; with_reducible rfl
      simp only [Act.put, List.setIfInBounds_toArray, List.set_cons_zero, List.set_cons_succ]
      refine wpAnyH_done (by kernel_rfl) ?_ _
      refine NoPanic.normal ?_
      clear hHeld
      go_wp2_with fail
      go_ret2
      exact rmake (unhide HKZ) (unhide GS1) (unhide GL1) hgg (unhide GS3) (unhide GS4) (unhide GS2) (unhide BL)
    · skip
      refine (if_pos (by rfl)).mpr ?_
      obtain ⟨i1, hi1, hz10, hz11, hz12⟩ := info_parts info_dones
      refine wp_make_full (.tmp 16) (.tmp 16) 77 rfl w.heap.size 185 i1 _ 1 Tryz.underlying77 hi1 hz10 hz11 n rfl rfl (by rw [hz12]; omega) (by unfold maxLen; omega) hHeld.size ?_
      intro w5 hownl hgrl
      have BL := hide (made_dones hownl)
      clear hownl hi1 hz10 hz11 hz12 i1
      have OW5 := hide ((unhide OW).kept hgrl (Or.inr (by simp [Value.ownBlock])))
      have hK5 : Keeps (fun _ => False) V1 w5 := Keeps.grown (Keeps.refl _ _) hgrl (fun k hk => by simp at hk)
      have GL1 : Hid (w.heap.size ≤ V1.heap.size) := hHeld.size
      have hgE : Hid (V1.heap.size ≠ E) := by show _ ≠ _; omega
      refine hK.out _ _ (hHeld.trans' hK5) (fun hNew => ?_)
      clear hK K hHeld hgrl OW hK5
      have hHeld := hNew
      have OW := OW5
      clear hNew OW5
      obtain ⟨gl, hgl⟩ : ∃ gl, gl = V1.heap.size := ⟨_, rfl⟩
      rw [← hgl] at BL GL1 hgE ⊢
      clear hgl
      simp only [Act.put, List.setIfInBounds_toArray]
      refine wpAnyH_ready (rs := [2]) (by kernel_rfl) (by simp) ?_
      refine AllReadyH.cons rfl (fun K hK => ?_) AllReadyH.nil
      refine (if_pos (by rfl)).mpr ?_
      obtain ⟨i0, hi, hz0, hz1, hz2⟩ := info_parts info_line
      refine wp_append_own _ (.tmp 12) (.tmp 13) 35 rfl w.heap.size 83 i0 _ 8 64 Tryz.underlying35 hi hz0 hz1 hz2 rfl (by decide) (.slice (some ⟨E, 0, none⟩) 0 0) 0 [] rfl (unhide OW) ⟨xb, xo, none⟩ n cap (linesV n s) rfl (linesV_len n s) (unhide HC _ hHeld) (linesV_one n s) (by unfold maxLen; omega) (by omega) hHeld.size ?_
      intro v' w4 hown hgr hnil
      rw [Nat.zero_add, List.nil_append] at hown
      obtain ⟨gs, cs, rfl, g1, g2, g3, g4⟩ := own_lines2 hown (fun h => by have := hnil.1 h; simp at this)
      have GS1 := hide g1
      have GS2 := hide g2
      have GS3 := hide g3
      have GS4 := hide g4
      clear hown hnil g1 g2 g3 g4 hi hz0 hz1 hz2 i0 OW
      have hK4 : Keeps (fun x => x = E) _ w4 := Keeps.grown (Keeps.refl _ _) hgr (fun k hk => by simp [Value.ownBlock] at hk; left; exact hk.symm)
      have BL4 : Hid (Blk w4 gl n 185 (fun _ => .slice none 0 0)) := (unhide BL).keeps hK4 (unhide hgE)
      have hK6 : Keeps (fun _ => False) w w4 := Keeps.grown hHeld hgr (fun k hk => by simp [Value.ownBlock] at hk; right; have := unhide HEW; omega)
      refine hK.out _ _ hK6 (fun hNew => ?_)
      clear hK K hHeld hgr hK4 hK6 BL
      have hHeld := hNew
      have BL := BL4
      clear hNew BL4
      generalize w4 = Z at *
      have hgg : gs ≠ gl := fun e => by
        obtain ⟨cur, h1, _⟩ := unhide GS4
        obtain ⟨cur2, h2, _⟩ := unhide BL
        rw [← e, h1] at h2
        simp at h2
      simp only [Act.put, List.setIfInBounds_toArray]
      refine take_at 6 18 (v := ?_) rfl rfl (by kernel_rfl) (by kernel_rfl) (by kernel_rfl) (Or.inl ⟨by rfl, ?_⟩) hHeld ?_
      rotate_left
      · intro w hSw; go_simp; with_reducible rfl
      simp only [Act.put, List.setIfInBounds_toArray, List.set_cons_zero, List.set_cons_succ]
      refine wpAnyH_ready (rs := [7]) (by kernel_rfl) (by simp) ?_
      refine AllReadyH.cons rfl (fun K hK => ?_) AllReadyH.nil
      go_simp
      refine hK.out _ _ (hHeld.alloc _) (fun hNew => ?_)
      clear hK K
      have HKZ := hide hHeld
      clear hHeld
      have hHeld := hNew
      clear hNew
      refine take_at 8 2 (v := ?_) rfl rfl (by kernel_rfl) (by kernel_rfl) (by kernel_rfl) (Or.inl ⟨by rfl, ?_⟩) hHeld ?_
      rotate_left
      · intro w hSw; go_simp; with_reducible rfl
      simp only [Act.put, List.setIfInBounds_toArray, List.set_cons_zero, List.set_cons_succ]
      refine take_at 9 3 (v := ?_) rfl rfl (by kernel_rfl) (by kernel_rfl) (by kernel_rfl) (Or.inl ⟨by rfl, ?_⟩) hHeld ?_
      rotate_left
      · intro w hSw; go_simp; with_reducible rfl
      simp only [Act.put, List.setIfInBounds_toArray, List.set_cons_zero, List.set_cons_succ]
      refine wpAnyH_done (by kernel_rfl) ?_ _
      refine NoPanic.normal ?_
      clear hHeld
      go_wp2_with fail
      go_ret2
      exact rmake (unhide HKZ) (unhide GS1) (unhide GL1) hgg (unhide GS3) (unhide GS4) (unhide GS2) (unhide BL)
  · skip
    refine (if_pos (by rfl)).mpr ?_
    obtain ⟨i1, hi1, hz10, hz11, hz12⟩ := info_parts info_dones
    refine wp_make_full (.tmp 16) (.tmp 16) 77 rfl w.heap.size 185 i1 _ 1 Tryz.underlying77 hi1 hz10 hz11 n rfl rfl (by rw [hz12]; omega) (by unfold maxLen; omega) hHeld.size ?_
    intro w5 hownl hgrl
    have BL := hide (made_dones hownl)
    clear hownl hi1 hz10 hz11 hz12 i1
    have hK5 : Keeps (fun _ => False) V w5 := Keeps.grown (Keeps.refl _ _) hgrl (fun k hk => by simp at hk)
    have GL1 : Hid (w.heap.size ≤ V.heap.size) := hHeld.size
    refine hK.out _ _ (hHeld.trans' hK5) (fun hNew => ?_)
    clear hK K hHeld hgrl hK5
    have hHeld := hNew
    clear hNew
    obtain ⟨gl, hgl⟩ : ∃ gl, gl = V.heap.size := ⟨_, rfl⟩
    rw [← hgl] at BL GL1 ⊢
    clear hgl V
    generalize w5 = V at *
    have hglV : Hid (gl < V.heap.size) := (unhide BL).lt
    simp only [Act.put, List.setIfInBounds_toArray]
    refine wpAnyH_ready (rs := [0]) (by kernel_rfl) (by simp) ?_
    refine AllReadyH.cons rfl (fun K hK => ?_) AllReadyH.nil
    go_simp
    have OW : Hid ((V.alloc (.cells #[] 83)).ownsRow w.heap.size 83 8 (.slice (some ⟨V.heap.size, 0, none⟩) 0 0) 0 []) := World.ownsRow_lit (base := w.heap.size) (e := 83) (size := 8) V #[] 0 hHeld.size (by decide) rfl
    refine hK.out _ _ (hHeld.alloc _) (fun hNew => ?_)
    clear hK K
    have HEW : Hid (w.heap.size ≤ V.heap.size) := hHeld.size
    have hEl : V.heap.size < (V.alloc (.cells #[] 83)).heap.size := by simp
    have BL1 : Hid (Blk (V.alloc (.cells #[] 83)) gl n 185 (fun _ => .slice none 0 0)) := (unhide BL).alloc _
    clear BL
    have BL := BL1
    clear BL1
    obtain ⟨E, hE⟩ : ∃ E, E = V.heap.size := ⟨_, rfl⟩
    rw [← hE] at OW HEW hEl ⊢
    clear hHeld
    have hHeld := hNew
    clear hNew
    have hgE : Hid (gl ≠ E) := by show _ ≠ _; have := unhide hglV; omega
    clear hglV
    clear hE
    generalize V.alloc (.cells #[] 83) = V1 at *
    refine wpAnyH_ready (rs := [2]) (by kernel_rfl) (by simp) ?_
    refine AllReadyH.cons rfl (fun K hK => ?_) AllReadyH.nil
    refine (if_pos (by rfl)).mpr ?_
    obtain ⟨i0, hi, hz0, hz1, hz2⟩ := info_parts info_line
    refine wp_append_own _ (.tmp 12) (.tmp 13) 35 rfl w.heap.size 83 i0 _ 8 64 Tryz.underlying35 hi hz0 hz1 hz2 rfl (by decide) (.slice (some ⟨E, 0, none⟩) 0 0) 0 [] rfl (unhide OW) ⟨xb, xo, none⟩ n cap (linesV n s) rfl (linesV_len n s) (unhide HC _ hHeld) (linesV_one n s) (by unfold maxLen; omega) (by omega) hHeld.size ?_
    intro v' w4 hown hgr hnil
    rw [Nat.zero_add, List.nil_append] at hown
    obtain ⟨gs, cs, rfl, g1, g2, g3, g4⟩ := own_lines2 hown (fun h => by have := hnil.1 h; simp at this)
    have GS1 := hide g1
    have GS2 := hide g2
    have GS3 := hide g3
    have GS4 := hide g4
    clear hown hnil g1 g2 g3 g4 hi hz0 hz1 hz2 i0 OW
    have hK4 : Keeps (fun x => x = E) _ w4 := Keeps.grown (Keeps.refl _ _) hgr (fun k hk => by simp [Value.ownBlock] at hk; left; exact hk.symm)
    have BL4 : Hid (Blk w4 gl n 185 (fun _ => .slice none 0 0)) := (unhide BL).keeps hK4 (unhide hgE)
    have hK6 : Keeps (fun _ => False) w w4 := Keeps.grown hHeld hgr (fun k hk => by simp [Value.ownBlock] at hk; right; have := unhide HEW; omega)
    refine hK.out _ _ hK6 (fun hNew => ?_)
    clear hK K hHeld hgr hK4 hK6 BL
    have hHeld := hNew
    have BL := BL4
    clear hNew BL4
    generalize w4 = Z at *
    have hgg : gs ≠ gl := fun e => by
      obtain ⟨cur, h1, _⟩ := unhide GS4
      obtain ⟨cur2, h2, _⟩ := unhide BL
      rw [← e, h1] at h2
      simp at h2
    simp only [Act.put, List.setIfInBounds_toArray]
    refine take_at 6 18 (v := ?_) rfl rfl (by kernel_rfl) (by kernel_rfl) (by kernel_rfl) (Or.inl ⟨by rfl, ?_⟩) hHeld ?_
    rotate_left
    · intro w hSw; go_simp; with_reducible rfl
    simp only [Act.put, List.setIfInBounds_toArray, List.set_cons_zero, List.set_cons_succ]
    refine wpAnyH_ready (rs := [7]) (by kernel_rfl) (by simp) ?_
    refine AllReadyH.cons rfl (fun K hK => ?_) AllReadyH.nil
    go_simp
    refine hK.out _ _ (hHeld.alloc _) (fun hNew => ?_)
    clear hK K
    have HKZ := hide hHeld
    clear hHeld
    have hHeld := hNew
    clear hNew
    refine take_at 8 2 (v := ?_) rfl rfl (by kernel_rfl) (by kernel_rfl) (by kernel_rfl) (Or.inl ⟨by rfl, ?_⟩) hHeld ?_
    rotate_left
    · intro w hSw; go_simp; with_reducible rfl
    simp only [Act.put, List.setIfInBounds_toArray, List.set_cons_zero, List.set_cons_succ]
    refine take_at 9 3 (v := ?_) rfl rfl (by kernel_rfl) (by kernel_rfl) (by kernel_rfl) (Or.inl ⟨by rfl, ?_⟩) hHeld ?_
    rotate_left
    · intro w hSw; go_simp; with_reducible rfl
    simp only [Act.put, List.setIfInBounds_toArray, List.set_cons_zero, List.set_cons_succ]
    refine wpAnyH_done (by kernel_rfl) ?_ _
    refine NoPanic.normal ?_
    clear hHeld
    go_wp2_with fail
    go_ret2
    exact rmake (unhide HKZ) (unhide GS1) (unhide GL1) hgg (unhide GS3) (unhide GS4) (unhide GS2) (unhide BL)

theorem rnew_any (w : World) (n : Nat) (hn : 64 ≤ n) (hn2 : n ≤ 1024) : Calls Tryz.prog 50 #[.int .i64 n] w (RMade w n fun _ _ => 0) := by
  have n64 : ¬ ((n : Int) < 64) := by omega
  have n1024 : ¬ ((1024 : Int) < (n : Int)) := by omega
  obtain ⟨i0, hi, hz0, hz1, hz2⟩ := info_parts info_line
  go_enter Tryz.func50, Tryz.ntmps50
  go_wp2_with (at_make; refine wpList_make_full _ rfl _ _ 35 rfl w.heap.size 83 i0 _ 8 Tryz.underlying35 hi hz0 hz1 .i64 .i64 _ _ n rfl rfl rfl rfl (by rw [hz2]; omega) (by unfold maxLen; omega) (Nat.le_refl _) ?_; intro w2 hown hgrow)
  have hb : Blk w2 w.heap.size (n * 8) 83 (fun _ => .int .u64 0) := made_blk hown fun i _ => by
    show (lnV fun _ => 0)[i % (lnV fun _ => 0).size]! = _
    rw [lnV_size]
    have := tab_get 8 (fun _ => Value.int .u64 0) (i % 8) (Nat.mod_lt _ (by decide))
    rw [getElem!_def, show (lnV fun _ => 0)[i % 8]? = _ from this]
  have hl : ∀ i, i < n → w2.rangeAt w.heap.size (0 + i * 8) ((List.range 8).map fun j => .int .u64 ((fun _ _ => 0 : Nat → Nat → Int) i j)) := fun i hi => hb.range _ 8 (by omega) _ (fun j hj => rfl)
  refine (rof_any w2 ⟨w.heap.size, 0, none⟩ n n _ hn hn2 (lines_cells hl) rfl).mono ?_
  rintro e w3 ⟨b, gs, cs, gl, F, ads, caps, rfl, hr, hkp, hF⟩
  have HR := hide hr
  have HK : Hid (Keeps (fun _ => False) w w3) := (Keeps.grown (Keeps.refl _ _) hgrow (fun k hk => by simp at hk)).trans' hkp
  have HS := hgrow.size
  clear hr hkp hown hb hl hi hz0 hz1 hz2 hgrow
  go_wp2_with fail
  go_ret2
  exact ⟨b, gs, cs, gl, F, ads, caps, rfl, unhide HR, unhide HK, fun k hk => Nat.le_trans HS (hF k hk)⟩

theorem rnew_bad (w : World) (z : Int) (hz : ¬ (64 ≤ z ∧ z ≤ 1024)) : Calls Tryz.prog 50 #[.int .i64 z] w fun e w' => e = .returned (.tuple #[.pointer none, .int .i64 1]) ∧ w' = w := by
  by_cases h1 : z < 64
  · clear hz
    go_enter Tryz.func50, Tryz.ntmps50
    go_wp2_with fail
    go_ret2
    exact ⟨rfl, rfl⟩
  · have h2 : 1024 < z := by omega
    clear hz
    go_enter Tryz.func50, Tryz.ntmps50
    go_wp2_with fail
    go_ret2
    exact ⟨rfl, rfl⟩

end Go.Proofs.YtinhnnnehhlceaaGreat


/-
  What the document's Store does.
-/
namespace Go.Proofs.YtinhnnnehhlceaaGreat
open Go.ChangeShapes Go.WideShapes Go.ChangeAt Go.RowKit Go.Joins
set_option maxRecDepth 10000
set_option linter.unusedVariables false
set_option linter.unusedSimpArgs false

section
variable {w : World} {F : Nat → Prop} {b gs cs gl : Nat} {A : Mm} {ads : Nat → Option Nat} {caps : Nat → Nat}

/-- The ten cells of a new store. -/
def newD (q : Nat) (v : Int) : Array Value := #[.int .i64 (q : Int), .int .u64 v, .bool false, .bool false, .bool false, .bool false, .bool false, .bool false, .bool false, .bool false]
theorem doneV_store (l : Ln) (q : Nat) (v : Int) (hf : ∀ j, l.f j ≤ l.t.length) : doneV (l.store q v) = doneV l ++ (newD q v).toList := by
  apply List.ext_getElem?
  intro i
  have hl : (l.store q v).t.length = l.t.length + 1 := by simp [Ln.store]
  by_cases h1 : i < l.t.length * 10
  · rw [List.getElem?_append_left (by rw [doneV_len]; exact h1)]
    simp only [doneV, hl, List.getElem?_map, List.getElem?_range h1, List.getElem?_range (show i < (l.t.length + 1) * 10 by omega), Option.map_some, Option.some.injEq]
    unfold doneAt Ln.store
    simp only [List.getD_eq_getElem?_getD, List.getElem?_append_left (show i / 10 < l.t.length by omega)]
  · rw [List.getElem?_append_right (by rw [doneV_len]; omega), doneV_len]
    by_cases h2 : i < (l.t.length + 1) * 10
    · obtain ⟨c, hc, rfl⟩ : ∃ c, c < 10 ∧ i = l.t.length * 10 + c := ⟨i - l.t.length * 10, by omega, by omega⟩
      simp only [doneV, hl, List.getElem?_map, List.getElem?_range h2, Option.map_some, show l.t.length * 10 + c - l.t.length * 10 = c by omega]
      unfold doneAt
      rw [show (l.t.length * 10 + c) / 10 = l.t.length by omega, show (l.t.length * 10 + c) % 10 = c by omega]
      have hg : (l.store q v).t.getD l.t.length (0, 0) = (q, v) := by simp [Ln.store]
      rw [hg]
      have hfl : ∀ d, decide (l.t.length < (l.store q v).f d) = false := fun d => decide_eq_false (by have := hf d; show ¬ l.t.length < l.f d; omega)
      rcases (show c = 0 ∨ c = 1 ∨ c = 2 ∨ c = 3 ∨ c = 4 ∨ c = 5 ∨ c = 6 ∨ c = 7 ∨ c = 8 ∨ c = 9 by omega) with rfl | rfl | rfl | rfl | rfl | rfl | rfl | rfl | rfl | rfl <;> simp [newD, hfl]
    · rw [List.getElem?_eq_none (by rw [doneV_len, hl]; omega), List.getElem?_eq_none (by simp [newD]; omega)]

/-- Behind the step: the row of a line's stores is made anew, with one more. -/
theorem rstore_end {w4 : World} (h : RRep w F b A gs cs gl ads caps) (k q : Nat) (v : Int) (hk : k < A.n) (hg4 : Keeps (fun _ => False) w w4) (g' cap' : Nat) (hbase : w.heap.size ≤ g') (hrow : RRow w4 ((A.l k).store q v) (some g') cap') :
    ∃ F' ads' caps', RRep (w4.setCell ⟨gl, k, none⟩ (.slice (some ⟨g', 0, none⟩) ((A.l k).t.length + 1) cap')) F' b ⟨A.n, upd A.l k ((A.l k).store q v), A.on, A.fuse, A.steps⟩ gs cs gl ads' caps' ∧ Keeps F w (w4.setCell ⟨gl, k, none⟩ (.slice (some ⟨g', 0, none⟩) ((A.l k).t.length + 1) cap')) ∧ Grew F w F' := by
  have hK4 : Keeps (fun x => x = gl) w (w4.setCell ⟨gl, k, none⟩ (.slice (some ⟨g', 0, none⟩) ((A.l k).t.length + 1) cap')) :=
    Keeps.setCell (F := fun x => x = gl) (p := ⟨gl, k, none⟩) (hg4.mono fun _ _ f => f.elim) rfl _
  have hgl : gl < w.heap.size := h.lt gl h.fl
  have hkl : Keeps (· = gl) w4 (w4.setCell ⟨gl, k, none⟩ (.slice (some ⟨g', 0, none⟩) ((A.l k).t.length + 1) cap')) := Keeps.setCell (F := (· = gl)) (p := ⟨gl, k, none⟩) (Keeps.refl _ _) rfl _
  obtain ⟨N, f, b1, b2, _, b3⟩ := h.sb
  refine ⟨_, _, _, h.line k hk ((A.l k).store q v) (some g') cap' hK4 (fun x hx => Or.inr (Or.inl hx)) ⟨N, f, b1.keeps hK4 h.d3, b2, fun i hi => ?_⟩ ?_ ?_ (fun g e => ?_), hK4.mono fun x _ hx => by rw [hx]; exact h.fl, fun x hx => ?_⟩
  · rw [b3 i hi]
    by_cases e : i / 8 = k
    · rw [e, upd_same]; rfl
    · rw [upd_other _ _ _ _ e]
  · refine ((h.lb.keeps hg4 id).set k _).ext fun i _ => ?_
    rw [show ((A.l k).store q v).t.length = (A.l k).t.length + 1 by simp [Ln.store]]; rfl
  · exact hrow.keeps hkl fun g e e2 => by cases e; omega
  · cases e; exact Or.inr hbase
  · rcases hx with hx | hx
    · exact Or.inl hx
    · cases hx; exact Or.inr hbase
theorem built_done (q : Nat) (v : Int) : Tryz.prog.built 195 [(0, .int .i64 (q : Int)), (1, .int .u64 v)] = some #[.int .i64 (q : Int), .int .u64 v, .bool false, .bool false, .bool false, .bool false, .bool false, .bool false, .bool false, .bool false] := by kernel_rfl

theorem own_ne {V : World} {base E nb : Nat} {q : Nat} {v : Int} (h : V.ownsRow base 195 10 (.slice (some ⟨E, 0, none⟩) 0 0) 0 []) (hn : V.heap[nb]? = some (.cells (newD q v) 195 (0, 0))) : nb ≠ E := fun e => by
  rcases h.2 with ⟨h', _⟩ | ⟨g', cap', cur, h', _, hg, _, _, hcs, _⟩
  · simp at h'
  · simp only [Value.slice.injEq, Option.some.injEq, Addr.mk.injEq, and_true, true_and] at h'
    obtain ⟨rfl, rfl⟩ := h'
    rw [← e, hn] at hg
    simp at hg
    rw [← hg] at hcs
    simp [newD] at hcs

theorem rstore_good (h : RRep w F b A gs cs gl ads caps) (hok : A.ok 1000) (k q : Nat) (v : Int) (hk : k < A.n) (hq : q < 8) :
    Calls Tryz.prog 78 #[.pointer (some ⟨b, 0, none⟩), .int .i64 k, .int .i64 q, .int .u64 v] w (RWent F w b gs cs gl (A.store k q v) (.int .i64 A.err)) := by
  obtain ⟨o1, o2, o3, o4, o5, o6, o7⟩ := hok
  have D1 : decide ((0 : Int) ≤ (k : Int) ∧ (k : Int) < (A.n : Int)) = true := by simp; omega
  have hk' : (k : Int) < (A.n : Int) := by omega
  have hq' : ¬ ((7 : Int) < (q : Int)) := by omega
  have H := hide h
  have CT := hide (rstep_any h (by omega) o5 o6)
  clear h
  by_cases hm : A.may = true
  · have he := err_on A hm
    have HSF : Hid (A.store k q v = ⟨A.n, upd A.l k ((A.l k).store q v), (A.stepped A.l).on, (A.stepped A.l).fuse, (A.stepped A.l).steps⟩) := step_on A _ hm
    have HSL := hide (step_on A A.l hm)
    go_enter Tryz.func78, Tryz.ntmps78
    go_wp2_with fail
    refine (ris_any (unhide H) _).mono ?_
    rintro e w1 ⟨rfl, rfl⟩
    rw [D1]
    go_wp2_with fail
    refine (unhide CT).mono ?_
    rintro e X ⟨rfl, hr1, hk1⟩
    rw [unhide HSL] at hr1
    have HR1 := hide hr1
    have HK1 := hide hk1
    rw [he]
    have Y1 : Hid (X.cell? ⟨b, 1, none⟩ = some (.slice (some ⟨gl, 0, none⟩) A.n A.n)) := hr1.c1
    obtain ⟨ao, hao⟩ : ∃ ao, ao = slot0 (ads k) := ⟨_, rfl⟩
    have XL : Hid (X.cell? ⟨gl, k, none⟩ = some (.slice ao (A.l k).t.length (caps k))) := by rw [hao]; exact hr1.lc k hk
    have XF : Hid (X.frozen? ⟨gl, k, none⟩ = false) := hr1.lb.free _
    have HGB : Hid (gl ≠ b) := Ne.symm hr1.d2
    have HFL := hide (o3 k).2.2
    have SNO : Hid (ao = none → (A.l k).t.length = 0 ∧ caps k = 0) := fun e => by
      have hrow : RRow X (A.l k) (ads k) (caps k) := hr1.row k hk
      rcases hrow with ⟨_, h1, h2⟩ | ⟨g, N, f, h1, _⟩
      · exact ⟨by rw [h2]; rfl, h1⟩
      · rw [hao, h1] at e; simp [slot0] at e
    have SCE : Hid (∀ V : World, Keeps (fun _ => False) X V → ∀ ad, ao = some ad → ∀ j u, (doneV (A.l k))[j]? = some u → V.cell? (ad.add j) = some u) := fun V hV ad had j u hj => by
      have hrow : RRow X (A.l k) (ads k) (caps k) := hr1.row k hk
      rw [hao] at had
      cases hg : ads k with
      | none => rw [hg] at had; simp [slot0] at had
      | some g =>
        rw [hg] at had hrow
        simp [slot0] at had
        subst had
        rw [Addr.add_mid]
        have := rrow_cells hrow 0 (Nat.zero_le _) j u (by rw [Ln.settle_zero]; exact hj)
        rw [Nat.zero_mul] at this
        exact hV.cellOf this id
    have hlen := o4 k
    have HND : Hid (newD q v = #[.int .i64 (q : Int), .int .u64 v, .bool false, .bool false, .bool false, .bool false, .bool false, .bool false, .bool false, .bool false]) := rfl
    clear hr1 hk1 CT hao
    go_wp2_with fail
    refine wp_region_noPanic ?_
    refine wp_region_held_drew (S := fun w' => w'.cell? ⟨b, 1, none⟩ = some (.slice (some ⟨gl, 0, none⟩) A.n A.n)) (by kernel_rfl) (unhide Y1) (fun hHeld => ?_)
    refine take_at 0 26 (v := ?_) rfl rfl (by kernel_rfl) (by kernel_rfl) (by kernel_rfl) (Or.inl ⟨by rfl, ?_⟩) hHeld ?_
    rotate_left
    · intro w hSw; go_simp; with_reducible rfl
    simp only [Act.put, List.setIfInBounds_toArray, List.set_cons_zero, List.set_cons_succ]
    refine take_at 1 27 (v := ?_) rfl rfl (by kernel_rfl) (by kernel_rfl) (by kernel_rfl) (Or.inl ⟨by rfl, ?_⟩) hHeld ?_
    rotate_left
    · intro w hSw; go_simp; with_reducible rfl
    simp only [Act.put, List.setIfInBounds_toArray, List.set_cons_zero, List.set_cons_succ]
    refine take_at 2 28 (v := ?_) rfl rfl (by kernel_rfl) (by kernel_rfl) (by kernel_rfl) (Or.inl ⟨by rfl, ?_⟩) hHeld ?_
    rotate_left
    · intro w hSw; go_simp; with_reducible rfl
    simp only [Act.put, List.setIfInBounds_toArray, List.set_cons_zero, List.set_cons_succ]
    refine take_at 3 29 (v := ?_) rfl rfl (by kernel_rfl) (by kernel_rfl) (by kernel_rfl) (Or.inl ⟨by rfl, ?_⟩) hHeld ?_
    rotate_left
    · intro w hSw; go_simp; with_reducible rfl
    simp only [Act.put, List.setIfInBounds_toArray, List.set_cons_zero, List.set_cons_succ]
    refine take_at 4 30 (v := ?_) rfl rfl (by kernel_rfl) (by kernel_rfl) (by kernel_rfl) (Or.inl ⟨by rfl, ?_⟩) hHeld ?_
    rotate_left
    · intro w hSw; go_simp; with_reducible rfl
    simp only [Act.put, List.setIfInBounds_toArray, List.set_cons_zero, List.set_cons_succ]
    refine take_at 6 32 (v := ?_) rfl rfl (by kernel_rfl) (by kernel_rfl) (by kernel_rfl) (Or.inl ⟨by rfl, ?_⟩) hHeld ?_
    rotate_left
    · intro w hSw; go_simp; with_reducible rfl
    simp only [Act.put, List.setIfInBounds_toArray, List.set_cons_zero, List.set_cons_succ]
    refine take_at 7 33 (v := ?_) rfl rfl (by kernel_rfl) (by kernel_rfl) (by kernel_rfl) (Or.inl ⟨by rfl, ?_⟩) hHeld ?_
    rotate_left
    · intro w hSw; go_simp; with_reducible rfl
    simp only [Act.put, List.setIfInBounds_toArray, List.set_cons_zero, List.set_cons_succ]
    refine take_at 8 34 (v := ?_) rfl rfl (by kernel_rfl) (by kernel_rfl) (by kernel_rfl) (Or.inl ⟨by rfl, ?_⟩) hHeld ?_
    rotate_left
    · intro w hSw; go_simp; with_reducible rfl
    simp only [Act.put, List.setIfInBounds_toArray, List.set_cons_zero, List.set_cons_succ]
    refine take_at 9 35 (v := ?_) rfl rfl (by kernel_rfl) (by kernel_rfl) (by kernel_rfl) (Or.inl ⟨by rfl, ?_⟩) hHeld ?_
    rotate_left
    · intro w hSw; go_simp; with_reducible rfl
    simp only [Act.put, List.setIfInBounds_toArray, List.set_cons_zero, List.set_cons_succ]
    refine take_at 10 36 (v := ?_) rfl rfl (by kernel_rfl) (by kernel_rfl) (by kernel_rfl) (Or.inl ⟨by rfl, ?_⟩) hHeld ?_
    rotate_left
    · intro w hSw; go_simp; with_reducible rfl
    simp only [Act.put, List.setIfInBounds_toArray, List.set_cons_zero, List.set_cons_succ]
    refine take_at 11 37 (v := ?_) rfl rfl (by kernel_rfl) (by kernel_rfl) (by kernel_rfl) (Or.inl ⟨by rfl, ?_⟩) hHeld ?_
    rotate_left
    · intro w hSw; go_simp; with_reducible rfl
    simp only [Act.put, List.setIfInBounds_toArray, List.set_cons_zero, List.set_cons_succ]
    refine take_at 14 40 (v := ?_) rfl rfl (by kernel_rfl) (by kernel_rfl) (by kernel_rfl) (Or.inl ⟨by rfl, ?_⟩) hHeld ?_
    rotate_left
    · intro w hSw; go_simp; with_reducible rfl
    simp only [Act.put, List.setIfInBounds_toArray, List.set_cons_zero, List.set_cons_succ]
    refine take_at 15 41 (v := ?_) rfl rfl (by kernel_rfl) (by kernel_rfl) (by kernel_rfl) (Or.inl ⟨by rfl, ?_⟩) hHeld ?_
    rotate_left
    · intro w hSw; go_simp; with_reducible rfl
    simp only [Act.put, List.setIfInBounds_toArray, List.set_cons_zero, List.set_cons_succ]
    refine take_at 16 42 rfl rfl (by kernel_rfl) (by kernel_rfl) (by kernel_rfl) (yieldsIf_build2 (by rfl) 195 0 1 (.tmp 40) (.tmp 41) rfl (.int .i64 (q : Int)) (.int .u64 v) rfl rfl _ (built_done q v)) hHeld ?_
    simp only [Act.put, List.setIfInBounds_toArray, List.set_cons_zero, List.set_cons_succ]
    have HV : Hid (Keeps (fun _ => False) X X.drew) := (Keeps.refl _ _).drew
    generalize X.drew = V at *
    refine wpAnyH_ready (rs := [5, 12, 17]) (by kernel_rfl) (by simp) ?_
    refine AllReadyH.cons rfl (fun K hK => ?_) (AllReadyH.cons rfl (fun K hK => ?_) (AllReadyH.cons rfl (fun K hK => ?_) AllReadyH.nil))
    · skip
      go_simp
      refine hK.out _ _ (cell_under hHeld _) (fun hNew => ?_)
      have OWa : Hid ((V.alloc (.cells #[] 195)).ownsRow X.heap.size 195 10 (.slice (some ⟨V.heap.size, 0, none⟩) 0 0) 0 []) := World.ownsRow_lit (base := X.heap.size) (e := 195) (size := 10) V #[] 0 (unhide HV).size (by decide) rfl
      have HV1 : Hid (Keeps (fun _ => False) X (V.alloc (.cells #[] 195))) := (unhide HV).alloc _
      clear HV
      have HV := HV1
      clear HV1
      try (have NB1 := hide ((Below.heap_alloc V (.cells #[] 195) nb (lt_of_block (unhide NBq))).trans (unhide NBq)); clear NBq; have NBq := NB1; clear NB1)
      have HEX : Hid (X.heap.size ≤ V.heap.size) := by
        have h1 : X.heap.size ≤ V.heap.size := by have := (unhide OWa).2; rcases this with ⟨h', _⟩ | ⟨g', _, _, h', h2, _⟩; simp at h'; simp at h'; obtain ⟨rfl, _⟩ := h'; exact h2
        exact h1
      obtain ⟨E, hE⟩ : ∃ E, E = V.heap.size := ⟨_, rfl⟩
      rw [← hE] at OWa HEX ⊢
      clear hE
      obtain ⟨V, hV⟩ : ∃ V' : World, V' = V.alloc (.cells #[] 195) := ⟨_, rfl⟩
      rw [← hV] at OWa HV hNew ⊢
      try rw [← hV] at NBq
      clear hV
      clear hK K hHeld
      have hHeld := hNew
      clear hNew
      try simp only [Act.put, List.setIfInBounds_toArray]
      refine wpAnyH_ready (rs := [12, 17]) (by kernel_rfl) (by simp) ?_
      refine AllReadyH.cons rfl (fun K hK => ?_) (AllReadyH.cons rfl (fun K hK => ?_) AllReadyH.nil)
      · skip
        have xl := (unhide HV).cellOf (unhide XL) id
        go_simp
        clear xl
        refine hK.out _ _ hHeld (fun hNew => ?_)
        clear hK K hHeld
        have hHeld := hNew
        clear hNew
        try simp only [Act.put, List.setIfInBounds_toArray]
        refine wpAnyH_ready (rs := [13, 17]) (by kernel_rfl) (by simp) ?_
        refine AllReadyH.cons rfl (fun K hK => ?_) (AllReadyH.cons rfl (fun K hK => ?_) AllReadyH.nil)
        · skip
          refine (if_pos (by rfl)).mpr ?_
          obtain ⟨i0, hi, hz0, hz1, hz2⟩ := info_parts info_done
          refine wp_append_src (.tmp 31) (.tmp 38) 185 rfl X.heap.size 195 i0 _ 10 24 Tryz.underlying185 hi hz0 hz1 hz2 rfl (by decide) (.slice (some ⟨E, 0, none⟩) 0 0) 0 [] rfl (unhide OWa) ao (A.l k).t.length (caps k) (doneV (A.l k)) rfl (unhide SNO) (doneV_len _) (unhide SCE V (unhide HV)) (doneV_one _) (by unfold maxLen; omega) (by omega) (unhide HV).size ?_
          intro v1 w4 hown hgr hnil
          rw [Nat.zero_add, List.nil_append] at hown
          have OWp := hide hown
          have HN1 : Hid (v1 ≠ .slice none 0 0) := hnil (by simp)
          have HV1 : Hid (Keeps (fun _ => False) X w4) := Keeps.grown (unhide HV) hgr (fun k hk => by simp [Value.ownBlock] at hk; right; have := unhide HEX; omega)
          try (have NB1 := hide ((hgr.block nb (lt_of_block (unhide NBq)) (fun e => own_ne (unhide OWa) (unhide NBq) (by simpa [Value.ownBlock] using e))).trans (unhide NBq)); clear NBq; have NBq := NB1; clear NB1)
          refine hK.out _ _ ((unhide HV1).cellOf (unhide Y1) id) (fun hNew => ?_)
          clear HV OWa hown hgr hnil hi hz0 hz1 hz2 i0
          have HV := HV1
          clear HV1
          obtain ⟨V, hV⟩ : ∃ V' : World, V' = w4 := ⟨_, rfl⟩
          rw [← hV] at OWp HV hNew ⊢
          try rw [← hV] at NBq
          clear hV
          clear hK K hHeld
          have hHeld := hNew
          clear hNew
          try simp only [Act.put, List.setIfInBounds_toArray]
          refine wpAnyH_ready (rs := [17]) (by kernel_rfl) (by simp) ?_
          refine AllReadyH.cons rfl (fun K hK => ?_) AllReadyH.nil
          go_simp
          refine hK.out _ _ (cell_under hHeld _) (fun hNew => ?_)
          have NBq : Hid ((V.alloc (.cells #[.int .i64 (q : Int), .int .u64 v, .bool false, .bool false, .bool false, .bool false, .bool false, .bool false, .bool false, .bool false] 195)).heap[V.heap.size]? = some (.cells (newD q v) 195 (0, 0))) := heap_new V _
          have HV1 : Hid (Keeps (fun _ => False) X (V.alloc (.cells #[.int .i64 (q : Int), .int .u64 v, .bool false, .bool false, .bool false, .bool false, .bool false, .bool false, .bool false, .bool false] 195))) := (unhide HV).alloc _
          clear HV
          have HV := HV1
          clear HV1
          try (have OW1 := hide ((unhide OWa).alloc (.cells #[.int .i64 (q : Int), .int .u64 v, .bool false, .bool false, .bool false, .bool false, .bool false, .bool false, .bool false, .bool false] 195)); clear OWa; have OWa := OW1; clear OW1)
          try (have OW1 := hide ((unhide OWp).alloc (.cells #[.int .i64 (q : Int), .int .u64 v, .bool false, .bool false, .bool false, .bool false, .bool false, .bool false, .bool false, .bool false] 195)); clear OWp; have OWp := OW1; clear OW1)
          obtain ⟨nb, hnb⟩ : ∃ nb, nb = V.heap.size := ⟨_, rfl⟩
          rw [← hnb] at NBq ⊢
          clear hnb
          obtain ⟨V, hV⟩ : ∃ V' : World, V' = V.alloc (.cells #[.int .i64 (q : Int), .int .u64 v, .bool false, .bool false, .bool false, .bool false, .bool false, .bool false, .bool false, .bool false] 195) := ⟨_, rfl⟩
          rw [← hV] at NBq HV hNew ⊢
          try rw [← hV] at OWa
          try rw [← hV] at OWp
          clear hV
          clear hK K hHeld
          have hHeld := hNew
          clear hNew
          try simp only [Act.put, List.setIfInBounds_toArray]
          refine wpAnyH_ready (rs := [18]) (by kernel_rfl) (by simp) ?_
          refine AllReadyH.cons rfl (fun K hK => ?_) AllReadyH.nil
          refine (if_pos (by rfl)).mpr ?_
          obtain ⟨i0, hi, hz0, hz1, hz2⟩ := info_parts info_done
          refine wp_append_own _ (.tmp 39) (.tmp 43) 185 rfl X.heap.size 195 i0 _ 10 24 Tryz.underlying185 hi hz0 hz1 hz2 rfl (by decide) v1 (A.l k).t.length (doneV (A.l k)) rfl (unhide OWp) ⟨nb, 0, none⟩ 1 1 (newD q v).toList rfl rfl (fun j u hj => by rw [Addr.add_mid, Nat.zero_add, cell_of_block (unhide NBq)]; rw [Array.getElem?_toList] at hj; exact hj) (by intro u hu; simp [newD] at hu; rcases hu with rfl | rfl | rfl <;> rfl) (by unfold maxLen; omega) (by omega) (unhide HV).size ?_
          intro v2 w6 hown hgr hnil
          rw [← doneV_store (A.l k) q v (unhide HFL)] at hown
          have hl2 : (A.l k).t.length + 1 = ((A.l k).store q v).t.length := by simp [Ln.store]
          rw [hl2] at hown
          obtain ⟨g', cap', rfl, hb', hrow'⟩ := rrow_new hown (fun h => unhide HN1 (hnil.1 h).1)
          rw [← hl2]
          have HV6 : Hid (Keeps (fun _ => False) X w6) := Keeps.grown (unhide HV) hgr (fun k hk => by
            right
            rcases (unhide OWp).2 with ⟨h1, _⟩ | ⟨g2, _, _, h1, h2, _⟩
            · rw [h1] at hk; simp [Value.ownBlock] at hk
            · rw [h1] at hk; simp [Value.ownBlock] at hk; omega)
          have HROW := hide hrow'
          have HB' := hide hb'
          have y6 := (unhide HV6).cellOf (unhide Y1) id
          have l6 := (unhide HV6).cellOf (unhide XL) id
          have f6 : w6.frozen? ⟨gl, k, none⟩ = false := by rw [World.frozen?_of_block (w := X) ((unhide HV6).block gl (World.block_lt_of_cell? X _ (unhide XL)) id)]; exact unhide XF
          refine hK.out _ _ y6 (fun hNew => ?_)
          clear hown hgr hnil hrow' hb' hi hz0 hz1 hz2 i0 hl2 HV OWp NBq
          clear hK K hHeld
          have hHeld := hNew
          clear hNew
          try simp only [Act.put, List.setIfInBounds_toArray]
          refine take_at 19 45 (v := ?_) rfl rfl (by kernel_rfl) (by kernel_rfl) (by kernel_rfl) (Or.inl ⟨by rfl, ?_⟩) hHeld ?_
          rotate_left
          · intro w hSw; go_simp; with_reducible rfl
          simp only [Act.put, List.setIfInBounds_toArray, List.set_cons_zero, List.set_cons_succ]
          refine wpAnyH_ready (rs := [20]) (by kernel_rfl) (by simp) ?_
          refine AllReadyH.cons rfl (fun K hK => ?_) AllReadyH.nil
          go_simp
          refine hK.out _ _ ((World.cell?_setCell_far _ _ _ _ (unhide HGB)).trans y6) (fun hNew => ?_)
          clear hK K hHeld hNew
          refine wpAnyH_done (by kernel_rfl) ?_ _
          refine NoPanic.normal ?_
          clear y6 l6 f6
          have END := hide (rstore_end (unhide HR1) k q v hk (unhide HV6) g' cap' (unhide HB') (unhide HROW))
          clear HV6 HROW HB'
          go_wp2_with fail
          go_ret
          obtain ⟨F', ads', caps', r1, r2, r3⟩ := unhide END
          rw [unhide HSF]
          try rw [he]
          exact ⟨rfl, F', ads', caps', r1, (unhide HK1).trans' r2, fun x hx => (r3 x hx).imp id fun h => Nat.le_trans (unhide HK1).size h⟩
        · skip
          go_simp
          refine hK.out _ _ (cell_under hHeld _) (fun hNew => ?_)
          have NBq : Hid ((V.alloc (.cells #[.int .i64 (q : Int), .int .u64 v, .bool false, .bool false, .bool false, .bool false, .bool false, .bool false, .bool false, .bool false] 195)).heap[V.heap.size]? = some (.cells (newD q v) 195 (0, 0))) := heap_new V _
          have HV1 : Hid (Keeps (fun _ => False) X (V.alloc (.cells #[.int .i64 (q : Int), .int .u64 v, .bool false, .bool false, .bool false, .bool false, .bool false, .bool false, .bool false, .bool false] 195))) := (unhide HV).alloc _
          clear HV
          have HV := HV1
          clear HV1
          try (have OW1 := hide ((unhide OWa).alloc (.cells #[.int .i64 (q : Int), .int .u64 v, .bool false, .bool false, .bool false, .bool false, .bool false, .bool false, .bool false, .bool false] 195)); clear OWa; have OWa := OW1; clear OW1)
          try (have OW1 := hide ((unhide OWp).alloc (.cells #[.int .i64 (q : Int), .int .u64 v, .bool false, .bool false, .bool false, .bool false, .bool false, .bool false, .bool false, .bool false] 195)); clear OWp; have OWp := OW1; clear OW1)
          obtain ⟨nb, hnb⟩ : ∃ nb, nb = V.heap.size := ⟨_, rfl⟩
          rw [← hnb] at NBq ⊢
          clear hnb
          obtain ⟨V, hV⟩ : ∃ V' : World, V' = V.alloc (.cells #[.int .i64 (q : Int), .int .u64 v, .bool false, .bool false, .bool false, .bool false, .bool false, .bool false, .bool false, .bool false] 195) := ⟨_, rfl⟩
          rw [← hV] at NBq HV hNew ⊢
          try rw [← hV] at OWa
          try rw [← hV] at OWp
          clear hV
          clear hK K hHeld
          have hHeld := hNew
          clear hNew
          try simp only [Act.put, List.setIfInBounds_toArray]
          refine wpAnyH_ready (rs := [13]) (by kernel_rfl) (by simp) ?_
          refine AllReadyH.cons rfl (fun K hK => ?_) AllReadyH.nil
          refine (if_pos (by rfl)).mpr ?_
          obtain ⟨i0, hi, hz0, hz1, hz2⟩ := info_parts info_done
          refine wp_append_src (.tmp 31) (.tmp 38) 185 rfl X.heap.size 195 i0 _ 10 24 Tryz.underlying185 hi hz0 hz1 hz2 rfl (by decide) (.slice (some ⟨E, 0, none⟩) 0 0) 0 [] rfl (unhide OWa) ao (A.l k).t.length (caps k) (doneV (A.l k)) rfl (unhide SNO) (doneV_len _) (unhide SCE V (unhide HV)) (doneV_one _) (by unfold maxLen; omega) (by omega) (unhide HV).size ?_
          intro v1 w4 hown hgr hnil
          rw [Nat.zero_add, List.nil_append] at hown
          have OWp := hide hown
          have HN1 : Hid (v1 ≠ .slice none 0 0) := hnil (by simp)
          have HV1 : Hid (Keeps (fun _ => False) X w4) := Keeps.grown (unhide HV) hgr (fun k hk => by simp [Value.ownBlock] at hk; right; have := unhide HEX; omega)
          try (have NB1 := hide ((hgr.block nb (lt_of_block (unhide NBq)) (fun e => own_ne (unhide OWa) (unhide NBq) (by simpa [Value.ownBlock] using e))).trans (unhide NBq)); clear NBq; have NBq := NB1; clear NB1)
          refine hK.out _ _ ((unhide HV1).cellOf (unhide Y1) id) (fun hNew => ?_)
          clear HV OWa hown hgr hnil hi hz0 hz1 hz2 i0
          have HV := HV1
          clear HV1
          obtain ⟨V, hV⟩ : ∃ V' : World, V' = w4 := ⟨_, rfl⟩
          rw [← hV] at OWp HV hNew ⊢
          try rw [← hV] at NBq
          clear hV
          clear hK K hHeld
          have hHeld := hNew
          clear hNew
          try simp only [Act.put, List.setIfInBounds_toArray]
          refine wpAnyH_ready (rs := [18]) (by kernel_rfl) (by simp) ?_
          refine AllReadyH.cons rfl (fun K hK => ?_) AllReadyH.nil
          refine (if_pos (by rfl)).mpr ?_
          obtain ⟨i0, hi, hz0, hz1, hz2⟩ := info_parts info_done
          refine wp_append_own _ (.tmp 39) (.tmp 43) 185 rfl X.heap.size 195 i0 _ 10 24 Tryz.underlying185 hi hz0 hz1 hz2 rfl (by decide) v1 (A.l k).t.length (doneV (A.l k)) rfl (unhide OWp) ⟨nb, 0, none⟩ 1 1 (newD q v).toList rfl rfl (fun j u hj => by rw [Addr.add_mid, Nat.zero_add, cell_of_block (unhide NBq)]; rw [Array.getElem?_toList] at hj; exact hj) (by intro u hu; simp [newD] at hu; rcases hu with rfl | rfl | rfl <;> rfl) (by unfold maxLen; omega) (by omega) (unhide HV).size ?_
          intro v2 w6 hown hgr hnil
          rw [← doneV_store (A.l k) q v (unhide HFL)] at hown
          have hl2 : (A.l k).t.length + 1 = ((A.l k).store q v).t.length := by simp [Ln.store]
          rw [hl2] at hown
          obtain ⟨g', cap', rfl, hb', hrow'⟩ := rrow_new hown (fun h => unhide HN1 (hnil.1 h).1)
          rw [← hl2]
          have HV6 : Hid (Keeps (fun _ => False) X w6) := Keeps.grown (unhide HV) hgr (fun k hk => by
            right
            rcases (unhide OWp).2 with ⟨h1, _⟩ | ⟨g2, _, _, h1, h2, _⟩
            · rw [h1] at hk; simp [Value.ownBlock] at hk
            · rw [h1] at hk; simp [Value.ownBlock] at hk; omega)
          have HROW := hide hrow'
          have HB' := hide hb'
          have y6 := (unhide HV6).cellOf (unhide Y1) id
          have l6 := (unhide HV6).cellOf (unhide XL) id
          have f6 : w6.frozen? ⟨gl, k, none⟩ = false := by rw [World.frozen?_of_block (w := X) ((unhide HV6).block gl (World.block_lt_of_cell? X _ (unhide XL)) id)]; exact unhide XF
          refine hK.out _ _ y6 (fun hNew => ?_)
          clear hown hgr hnil hrow' hb' hi hz0 hz1 hz2 i0 hl2 HV OWp NBq
          clear hK K hHeld
          have hHeld := hNew
          clear hNew
          try simp only [Act.put, List.setIfInBounds_toArray]
          refine take_at 19 45 (v := ?_) rfl rfl (by kernel_rfl) (by kernel_rfl) (by kernel_rfl) (Or.inl ⟨by rfl, ?_⟩) hHeld ?_
          rotate_left
          · intro w hSw; go_simp; with_reducible rfl
          simp only [Act.put, List.setIfInBounds_toArray, List.set_cons_zero, List.set_cons_succ]
          refine wpAnyH_ready (rs := [20]) (by kernel_rfl) (by simp) ?_
          refine AllReadyH.cons rfl (fun K hK => ?_) AllReadyH.nil
          go_simp
          refine hK.out _ _ ((World.cell?_setCell_far _ _ _ _ (unhide HGB)).trans y6) (fun hNew => ?_)
          clear hK K hHeld hNew
          refine wpAnyH_done (by kernel_rfl) ?_ _
          refine NoPanic.normal ?_
          clear y6 l6 f6
          have END := hide (rstore_end (unhide HR1) k q v hk (unhide HV6) g' cap' (unhide HB') (unhide HROW))
          clear HV6 HROW HB'
          go_wp2_with fail
          go_ret
          obtain ⟨F', ads', caps', r1, r2, r3⟩ := unhide END
          rw [unhide HSF]
          try rw [he]
          exact ⟨rfl, F', ads', caps', r1, (unhide HK1).trans' r2, fun x hx => (r3 x hx).imp id fun h => Nat.le_trans (unhide HK1).size h⟩
      · skip
        go_simp
        refine hK.out _ _ (cell_under hHeld _) (fun hNew => ?_)
        have NBq : Hid ((V.alloc (.cells #[.int .i64 (q : Int), .int .u64 v, .bool false, .bool false, .bool false, .bool false, .bool false, .bool false, .bool false, .bool false] 195)).heap[V.heap.size]? = some (.cells (newD q v) 195 (0, 0))) := heap_new V _
        have HV1 : Hid (Keeps (fun _ => False) X (V.alloc (.cells #[.int .i64 (q : Int), .int .u64 v, .bool false, .bool false, .bool false, .bool false, .bool false, .bool false, .bool false, .bool false] 195))) := (unhide HV).alloc _
        clear HV
        have HV := HV1
        clear HV1
        try (have OW1 := hide ((unhide OWa).alloc (.cells #[.int .i64 (q : Int), .int .u64 v, .bool false, .bool false, .bool false, .bool false, .bool false, .bool false, .bool false, .bool false] 195)); clear OWa; have OWa := OW1; clear OW1)
        try (have OW1 := hide ((unhide OWp).alloc (.cells #[.int .i64 (q : Int), .int .u64 v, .bool false, .bool false, .bool false, .bool false, .bool false, .bool false, .bool false, .bool false] 195)); clear OWp; have OWp := OW1; clear OW1)
        obtain ⟨nb, hnb⟩ : ∃ nb, nb = V.heap.size := ⟨_, rfl⟩
        rw [← hnb] at NBq ⊢
        clear hnb
        obtain ⟨V, hV⟩ : ∃ V' : World, V' = V.alloc (.cells #[.int .i64 (q : Int), .int .u64 v, .bool false, .bool false, .bool false, .bool false, .bool false, .bool false, .bool false, .bool false] 195) := ⟨_, rfl⟩
        rw [← hV] at NBq HV hNew ⊢
        try rw [← hV] at OWa
        try rw [← hV] at OWp
        clear hV
        clear hK K hHeld
        have hHeld := hNew
        clear hNew
        try simp only [Act.put, List.setIfInBounds_toArray]
        refine wpAnyH_ready (rs := [12]) (by kernel_rfl) (by simp) ?_
        refine AllReadyH.cons rfl (fun K hK => ?_) AllReadyH.nil
        have xl := (unhide HV).cellOf (unhide XL) id
        go_simp
        clear xl
        refine hK.out _ _ hHeld (fun hNew => ?_)
        clear hK K hHeld
        have hHeld := hNew
        clear hNew
        try simp only [Act.put, List.setIfInBounds_toArray]
        refine wpAnyH_ready (rs := [13]) (by kernel_rfl) (by simp) ?_
        refine AllReadyH.cons rfl (fun K hK => ?_) AllReadyH.nil
        refine (if_pos (by rfl)).mpr ?_
        obtain ⟨i0, hi, hz0, hz1, hz2⟩ := info_parts info_done
        refine wp_append_src (.tmp 31) (.tmp 38) 185 rfl X.heap.size 195 i0 _ 10 24 Tryz.underlying185 hi hz0 hz1 hz2 rfl (by decide) (.slice (some ⟨E, 0, none⟩) 0 0) 0 [] rfl (unhide OWa) ao (A.l k).t.length (caps k) (doneV (A.l k)) rfl (unhide SNO) (doneV_len _) (unhide SCE V (unhide HV)) (doneV_one _) (by unfold maxLen; omega) (by omega) (unhide HV).size ?_
        intro v1 w4 hown hgr hnil
        rw [Nat.zero_add, List.nil_append] at hown
        have OWp := hide hown
        have HN1 : Hid (v1 ≠ .slice none 0 0) := hnil (by simp)
        have HV1 : Hid (Keeps (fun _ => False) X w4) := Keeps.grown (unhide HV) hgr (fun k hk => by simp [Value.ownBlock] at hk; right; have := unhide HEX; omega)
        try (have NB1 := hide ((hgr.block nb (lt_of_block (unhide NBq)) (fun e => own_ne (unhide OWa) (unhide NBq) (by simpa [Value.ownBlock] using e))).trans (unhide NBq)); clear NBq; have NBq := NB1; clear NB1)
        refine hK.out _ _ ((unhide HV1).cellOf (unhide Y1) id) (fun hNew => ?_)
        clear HV OWa hown hgr hnil hi hz0 hz1 hz2 i0
        have HV := HV1
        clear HV1
        obtain ⟨V, hV⟩ : ∃ V' : World, V' = w4 := ⟨_, rfl⟩
        rw [← hV] at OWp HV hNew ⊢
        try rw [← hV] at NBq
        clear hV
        clear hK K hHeld
        have hHeld := hNew
        clear hNew
        try simp only [Act.put, List.setIfInBounds_toArray]
        refine wpAnyH_ready (rs := [18]) (by kernel_rfl) (by simp) ?_
        refine AllReadyH.cons rfl (fun K hK => ?_) AllReadyH.nil
        refine (if_pos (by rfl)).mpr ?_
        obtain ⟨i0, hi, hz0, hz1, hz2⟩ := info_parts info_done
        refine wp_append_own _ (.tmp 39) (.tmp 43) 185 rfl X.heap.size 195 i0 _ 10 24 Tryz.underlying185 hi hz0 hz1 hz2 rfl (by decide) v1 (A.l k).t.length (doneV (A.l k)) rfl (unhide OWp) ⟨nb, 0, none⟩ 1 1 (newD q v).toList rfl rfl (fun j u hj => by rw [Addr.add_mid, Nat.zero_add, cell_of_block (unhide NBq)]; rw [Array.getElem?_toList] at hj; exact hj) (by intro u hu; simp [newD] at hu; rcases hu with rfl | rfl | rfl <;> rfl) (by unfold maxLen; omega) (by omega) (unhide HV).size ?_
        intro v2 w6 hown hgr hnil
        rw [← doneV_store (A.l k) q v (unhide HFL)] at hown
        have hl2 : (A.l k).t.length + 1 = ((A.l k).store q v).t.length := by simp [Ln.store]
        rw [hl2] at hown
        obtain ⟨g', cap', rfl, hb', hrow'⟩ := rrow_new hown (fun h => unhide HN1 (hnil.1 h).1)
        rw [← hl2]
        have HV6 : Hid (Keeps (fun _ => False) X w6) := Keeps.grown (unhide HV) hgr (fun k hk => by
          right
          rcases (unhide OWp).2 with ⟨h1, _⟩ | ⟨g2, _, _, h1, h2, _⟩
          · rw [h1] at hk; simp [Value.ownBlock] at hk
          · rw [h1] at hk; simp [Value.ownBlock] at hk; omega)
        have HROW := hide hrow'
        have HB' := hide hb'
        have y6 := (unhide HV6).cellOf (unhide Y1) id
        have l6 := (unhide HV6).cellOf (unhide XL) id
        have f6 : w6.frozen? ⟨gl, k, none⟩ = false := by rw [World.frozen?_of_block (w := X) ((unhide HV6).block gl (World.block_lt_of_cell? X _ (unhide XL)) id)]; exact unhide XF
        refine hK.out _ _ y6 (fun hNew => ?_)
        clear hown hgr hnil hrow' hb' hi hz0 hz1 hz2 i0 hl2 HV OWp NBq
        clear hK K hHeld
        have hHeld := hNew
        clear hNew
        try simp only [Act.put, List.setIfInBounds_toArray]
        refine take_at 19 45 (v := ?_) rfl rfl (by kernel_rfl) (by kernel_rfl) (by kernel_rfl) (Or.inl ⟨by rfl, ?_⟩) hHeld ?_
        rotate_left
        · intro w hSw; go_simp; with_reducible rfl
        simp only [Act.put, List.setIfInBounds_toArray, List.set_cons_zero, List.set_cons_succ]
        refine wpAnyH_ready (rs := [20]) (by kernel_rfl) (by simp) ?_
        refine AllReadyH.cons rfl (fun K hK => ?_) AllReadyH.nil
        go_simp
        refine hK.out _ _ ((World.cell?_setCell_far _ _ _ _ (unhide HGB)).trans y6) (fun hNew => ?_)
        clear hK K hHeld hNew
        refine wpAnyH_done (by kernel_rfl) ?_ _
        refine NoPanic.normal ?_
        clear y6 l6 f6
        have END := hide (rstore_end (unhide HR1) k q v hk (unhide HV6) g' cap' (unhide HB') (unhide HROW))
        clear HV6 HROW HB'
        go_wp2_with fail
        go_ret
        obtain ⟨F', ads', caps', r1, r2, r3⟩ := unhide END
        rw [unhide HSF]
        try rw [he]
        exact ⟨rfl, F', ads', caps', r1, (unhide HK1).trans' r2, fun x hx => (r3 x hx).imp id fun h => Nat.le_trans (unhide HK1).size h⟩
    · skip
      have xl := (unhide HV).cellOf (unhide XL) id
      go_simp
      clear xl
      refine hK.out _ _ hHeld (fun hNew => ?_)
      clear hK K hHeld
      have hHeld := hNew
      clear hNew
      try simp only [Act.put, List.setIfInBounds_toArray]
      refine wpAnyH_ready (rs := [5, 17]) (by kernel_rfl) (by simp) ?_
      refine AllReadyH.cons rfl (fun K hK => ?_) (AllReadyH.cons rfl (fun K hK => ?_) AllReadyH.nil)
      · skip
        go_simp
        refine hK.out _ _ (cell_under hHeld _) (fun hNew => ?_)
        have OWa : Hid ((V.alloc (.cells #[] 195)).ownsRow X.heap.size 195 10 (.slice (some ⟨V.heap.size, 0, none⟩) 0 0) 0 []) := World.ownsRow_lit (base := X.heap.size) (e := 195) (size := 10) V #[] 0 (unhide HV).size (by decide) rfl
        have HV1 : Hid (Keeps (fun _ => False) X (V.alloc (.cells #[] 195))) := (unhide HV).alloc _
        clear HV
        have HV := HV1
        clear HV1
        try (have NB1 := hide ((Below.heap_alloc V (.cells #[] 195) nb (lt_of_block (unhide NBq))).trans (unhide NBq)); clear NBq; have NBq := NB1; clear NB1)
        have HEX : Hid (X.heap.size ≤ V.heap.size) := by
          have h1 : X.heap.size ≤ V.heap.size := by have := (unhide OWa).2; rcases this with ⟨h', _⟩ | ⟨g', _, _, h', h2, _⟩; simp at h'; simp at h'; obtain ⟨rfl, _⟩ := h'; exact h2
          exact h1
        obtain ⟨E, hE⟩ : ∃ E, E = V.heap.size := ⟨_, rfl⟩
        rw [← hE] at OWa HEX ⊢
        clear hE
        obtain ⟨V, hV⟩ : ∃ V' : World, V' = V.alloc (.cells #[] 195) := ⟨_, rfl⟩
        rw [← hV] at OWa HV hNew ⊢
        try rw [← hV] at NBq
        clear hV
        clear hK K hHeld
        have hHeld := hNew
        clear hNew
        try simp only [Act.put, List.setIfInBounds_toArray]
        refine wpAnyH_ready (rs := [13, 17]) (by kernel_rfl) (by simp) ?_
        refine AllReadyH.cons rfl (fun K hK => ?_) (AllReadyH.cons rfl (fun K hK => ?_) AllReadyH.nil)
        · skip
          refine (if_pos (by rfl)).mpr ?_
          obtain ⟨i0, hi, hz0, hz1, hz2⟩ := info_parts info_done
          refine wp_append_src (.tmp 31) (.tmp 38) 185 rfl X.heap.size 195 i0 _ 10 24 Tryz.underlying185 hi hz0 hz1 hz2 rfl (by decide) (.slice (some ⟨E, 0, none⟩) 0 0) 0 [] rfl (unhide OWa) ao (A.l k).t.length (caps k) (doneV (A.l k)) rfl (unhide SNO) (doneV_len _) (unhide SCE V (unhide HV)) (doneV_one _) (by unfold maxLen; omega) (by omega) (unhide HV).size ?_
          intro v1 w4 hown hgr hnil
          rw [Nat.zero_add, List.nil_append] at hown
          have OWp := hide hown
          have HN1 : Hid (v1 ≠ .slice none 0 0) := hnil (by simp)
          have HV1 : Hid (Keeps (fun _ => False) X w4) := Keeps.grown (unhide HV) hgr (fun k hk => by simp [Value.ownBlock] at hk; right; have := unhide HEX; omega)
          try (have NB1 := hide ((hgr.block nb (lt_of_block (unhide NBq)) (fun e => own_ne (unhide OWa) (unhide NBq) (by simpa [Value.ownBlock] using e))).trans (unhide NBq)); clear NBq; have NBq := NB1; clear NB1)
          refine hK.out _ _ ((unhide HV1).cellOf (unhide Y1) id) (fun hNew => ?_)
          clear HV OWa hown hgr hnil hi hz0 hz1 hz2 i0
          have HV := HV1
          clear HV1
          obtain ⟨V, hV⟩ : ∃ V' : World, V' = w4 := ⟨_, rfl⟩
          rw [← hV] at OWp HV hNew ⊢
          try rw [← hV] at NBq
          clear hV
          clear hK K hHeld
          have hHeld := hNew
          clear hNew
          try simp only [Act.put, List.setIfInBounds_toArray]
          refine wpAnyH_ready (rs := [17]) (by kernel_rfl) (by simp) ?_
          refine AllReadyH.cons rfl (fun K hK => ?_) AllReadyH.nil
          go_simp
          refine hK.out _ _ (cell_under hHeld _) (fun hNew => ?_)
          have NBq : Hid ((V.alloc (.cells #[.int .i64 (q : Int), .int .u64 v, .bool false, .bool false, .bool false, .bool false, .bool false, .bool false, .bool false, .bool false] 195)).heap[V.heap.size]? = some (.cells (newD q v) 195 (0, 0))) := heap_new V _
          have HV1 : Hid (Keeps (fun _ => False) X (V.alloc (.cells #[.int .i64 (q : Int), .int .u64 v, .bool false, .bool false, .bool false, .bool false, .bool false, .bool false, .bool false, .bool false] 195))) := (unhide HV).alloc _
          clear HV
          have HV := HV1
          clear HV1
          try (have OW1 := hide ((unhide OWa).alloc (.cells #[.int .i64 (q : Int), .int .u64 v, .bool false, .bool false, .bool false, .bool false, .bool false, .bool false, .bool false, .bool false] 195)); clear OWa; have OWa := OW1; clear OW1)
          try (have OW1 := hide ((unhide OWp).alloc (.cells #[.int .i64 (q : Int), .int .u64 v, .bool false, .bool false, .bool false, .bool false, .bool false, .bool false, .bool false, .bool false] 195)); clear OWp; have OWp := OW1; clear OW1)
          obtain ⟨nb, hnb⟩ : ∃ nb, nb = V.heap.size := ⟨_, rfl⟩
          rw [← hnb] at NBq ⊢
          clear hnb
          obtain ⟨V, hV⟩ : ∃ V' : World, V' = V.alloc (.cells #[.int .i64 (q : Int), .int .u64 v, .bool false, .bool false, .bool false, .bool false, .bool false, .bool false, .bool false, .bool false] 195) := ⟨_, rfl⟩
          rw [← hV] at NBq HV hNew ⊢
          try rw [← hV] at OWa
          try rw [← hV] at OWp
          clear hV
          clear hK K hHeld
          have hHeld := hNew
          clear hNew
          try simp only [Act.put, List.setIfInBounds_toArray]
          refine wpAnyH_ready (rs := [18]) (by kernel_rfl) (by simp) ?_
          refine AllReadyH.cons rfl (fun K hK => ?_) AllReadyH.nil
          refine (if_pos (by rfl)).mpr ?_
          obtain ⟨i0, hi, hz0, hz1, hz2⟩ := info_parts info_done
          refine wp_append_own _ (.tmp 39) (.tmp 43) 185 rfl X.heap.size 195 i0 _ 10 24 Tryz.underlying185 hi hz0 hz1 hz2 rfl (by decide) v1 (A.l k).t.length (doneV (A.l k)) rfl (unhide OWp) ⟨nb, 0, none⟩ 1 1 (newD q v).toList rfl rfl (fun j u hj => by rw [Addr.add_mid, Nat.zero_add, cell_of_block (unhide NBq)]; rw [Array.getElem?_toList] at hj; exact hj) (by intro u hu; simp [newD] at hu; rcases hu with rfl | rfl | rfl <;> rfl) (by unfold maxLen; omega) (by omega) (unhide HV).size ?_
          intro v2 w6 hown hgr hnil
          rw [← doneV_store (A.l k) q v (unhide HFL)] at hown
          have hl2 : (A.l k).t.length + 1 = ((A.l k).store q v).t.length := by simp [Ln.store]
          rw [hl2] at hown
          obtain ⟨g', cap', rfl, hb', hrow'⟩ := rrow_new hown (fun h => unhide HN1 (hnil.1 h).1)
          rw [← hl2]
          have HV6 : Hid (Keeps (fun _ => False) X w6) := Keeps.grown (unhide HV) hgr (fun k hk => by
            right
            rcases (unhide OWp).2 with ⟨h1, _⟩ | ⟨g2, _, _, h1, h2, _⟩
            · rw [h1] at hk; simp [Value.ownBlock] at hk
            · rw [h1] at hk; simp [Value.ownBlock] at hk; omega)
          have HROW := hide hrow'
          have HB' := hide hb'
          have y6 := (unhide HV6).cellOf (unhide Y1) id
          have l6 := (unhide HV6).cellOf (unhide XL) id
          have f6 : w6.frozen? ⟨gl, k, none⟩ = false := by rw [World.frozen?_of_block (w := X) ((unhide HV6).block gl (World.block_lt_of_cell? X _ (unhide XL)) id)]; exact unhide XF
          refine hK.out _ _ y6 (fun hNew => ?_)
          clear hown hgr hnil hrow' hb' hi hz0 hz1 hz2 i0 hl2 HV OWp NBq
          clear hK K hHeld
          have hHeld := hNew
          clear hNew
          try simp only [Act.put, List.setIfInBounds_toArray]
          refine take_at 19 45 (v := ?_) rfl rfl (by kernel_rfl) (by kernel_rfl) (by kernel_rfl) (Or.inl ⟨by rfl, ?_⟩) hHeld ?_
          rotate_left
          · intro w hSw; go_simp; with_reducible rfl
          simp only [Act.put, List.setIfInBounds_toArray, List.set_cons_zero, List.set_cons_succ]
          refine wpAnyH_ready (rs := [20]) (by kernel_rfl) (by simp) ?_
          refine AllReadyH.cons rfl (fun K hK => ?_) AllReadyH.nil
          go_simp
          refine hK.out _ _ ((World.cell?_setCell_far _ _ _ _ (unhide HGB)).trans y6) (fun hNew => ?_)
          clear hK K hHeld hNew
          refine wpAnyH_done (by kernel_rfl) ?_ _
          refine NoPanic.normal ?_
          clear y6 l6 f6
          have END := hide (rstore_end (unhide HR1) k q v hk (unhide HV6) g' cap' (unhide HB') (unhide HROW))
          clear HV6 HROW HB'
          go_wp2_with fail
          go_ret
          obtain ⟨F', ads', caps', r1, r2, r3⟩ := unhide END
          rw [unhide HSF]
          try rw [he]
          exact ⟨rfl, F', ads', caps', r1, (unhide HK1).trans' r2, fun x hx => (r3 x hx).imp id fun h => Nat.le_trans (unhide HK1).size h⟩
        · skip
          go_simp
          refine hK.out _ _ (cell_under hHeld _) (fun hNew => ?_)
          have NBq : Hid ((V.alloc (.cells #[.int .i64 (q : Int), .int .u64 v, .bool false, .bool false, .bool false, .bool false, .bool false, .bool false, .bool false, .bool false] 195)).heap[V.heap.size]? = some (.cells (newD q v) 195 (0, 0))) := heap_new V _
          have HV1 : Hid (Keeps (fun _ => False) X (V.alloc (.cells #[.int .i64 (q : Int), .int .u64 v, .bool false, .bool false, .bool false, .bool false, .bool false, .bool false, .bool false, .bool false] 195))) := (unhide HV).alloc _
          clear HV
          have HV := HV1
          clear HV1
          try (have OW1 := hide ((unhide OWa).alloc (.cells #[.int .i64 (q : Int), .int .u64 v, .bool false, .bool false, .bool false, .bool false, .bool false, .bool false, .bool false, .bool false] 195)); clear OWa; have OWa := OW1; clear OW1)
          try (have OW1 := hide ((unhide OWp).alloc (.cells #[.int .i64 (q : Int), .int .u64 v, .bool false, .bool false, .bool false, .bool false, .bool false, .bool false, .bool false, .bool false] 195)); clear OWp; have OWp := OW1; clear OW1)
          obtain ⟨nb, hnb⟩ : ∃ nb, nb = V.heap.size := ⟨_, rfl⟩
          rw [← hnb] at NBq ⊢
          clear hnb
          obtain ⟨V, hV⟩ : ∃ V' : World, V' = V.alloc (.cells #[.int .i64 (q : Int), .int .u64 v, .bool false, .bool false, .bool false, .bool false, .bool false, .bool false, .bool false, .bool false] 195) := ⟨_, rfl⟩
          rw [← hV] at NBq HV hNew ⊢
          try rw [← hV] at OWa
          try rw [← hV] at OWp
          clear hV
          clear hK K hHeld
          have hHeld := hNew
          clear hNew
          try simp only [Act.put, List.setIfInBounds_toArray]
          refine wpAnyH_ready (rs := [13]) (by kernel_rfl) (by simp) ?_
          refine AllReadyH.cons rfl (fun K hK => ?_) AllReadyH.nil
          refine (if_pos (by rfl)).mpr ?_
          obtain ⟨i0, hi, hz0, hz1, hz2⟩ := info_parts info_done
          refine wp_append_src (.tmp 31) (.tmp 38) 185 rfl X.heap.size 195 i0 _ 10 24 Tryz.underlying185 hi hz0 hz1 hz2 rfl (by decide) (.slice (some ⟨E, 0, none⟩) 0 0) 0 [] rfl (unhide OWa) ao (A.l k).t.length (caps k) (doneV (A.l k)) rfl (unhide SNO) (doneV_len _) (unhide SCE V (unhide HV)) (doneV_one _) (by unfold maxLen; omega) (by omega) (unhide HV).size ?_
          intro v1 w4 hown hgr hnil
          rw [Nat.zero_add, List.nil_append] at hown
          have OWp := hide hown
          have HN1 : Hid (v1 ≠ .slice none 0 0) := hnil (by simp)
          have HV1 : Hid (Keeps (fun _ => False) X w4) := Keeps.grown (unhide HV) hgr (fun k hk => by simp [Value.ownBlock] at hk; right; have := unhide HEX; omega)
          try (have NB1 := hide ((hgr.block nb (lt_of_block (unhide NBq)) (fun e => own_ne (unhide OWa) (unhide NBq) (by simpa [Value.ownBlock] using e))).trans (unhide NBq)); clear NBq; have NBq := NB1; clear NB1)
          refine hK.out _ _ ((unhide HV1).cellOf (unhide Y1) id) (fun hNew => ?_)
          clear HV OWa hown hgr hnil hi hz0 hz1 hz2 i0
          have HV := HV1
          clear HV1
          obtain ⟨V, hV⟩ : ∃ V' : World, V' = w4 := ⟨_, rfl⟩
          rw [← hV] at OWp HV hNew ⊢
          try rw [← hV] at NBq
          clear hV
          clear hK K hHeld
          have hHeld := hNew
          clear hNew
          try simp only [Act.put, List.setIfInBounds_toArray]
          refine wpAnyH_ready (rs := [18]) (by kernel_rfl) (by simp) ?_
          refine AllReadyH.cons rfl (fun K hK => ?_) AllReadyH.nil
          refine (if_pos (by rfl)).mpr ?_
          obtain ⟨i0, hi, hz0, hz1, hz2⟩ := info_parts info_done
          refine wp_append_own _ (.tmp 39) (.tmp 43) 185 rfl X.heap.size 195 i0 _ 10 24 Tryz.underlying185 hi hz0 hz1 hz2 rfl (by decide) v1 (A.l k).t.length (doneV (A.l k)) rfl (unhide OWp) ⟨nb, 0, none⟩ 1 1 (newD q v).toList rfl rfl (fun j u hj => by rw [Addr.add_mid, Nat.zero_add, cell_of_block (unhide NBq)]; rw [Array.getElem?_toList] at hj; exact hj) (by intro u hu; simp [newD] at hu; rcases hu with rfl | rfl | rfl <;> rfl) (by unfold maxLen; omega) (by omega) (unhide HV).size ?_
          intro v2 w6 hown hgr hnil
          rw [← doneV_store (A.l k) q v (unhide HFL)] at hown
          have hl2 : (A.l k).t.length + 1 = ((A.l k).store q v).t.length := by simp [Ln.store]
          rw [hl2] at hown
          obtain ⟨g', cap', rfl, hb', hrow'⟩ := rrow_new hown (fun h => unhide HN1 (hnil.1 h).1)
          rw [← hl2]
          have HV6 : Hid (Keeps (fun _ => False) X w6) := Keeps.grown (unhide HV) hgr (fun k hk => by
            right
            rcases (unhide OWp).2 with ⟨h1, _⟩ | ⟨g2, _, _, h1, h2, _⟩
            · rw [h1] at hk; simp [Value.ownBlock] at hk
            · rw [h1] at hk; simp [Value.ownBlock] at hk; omega)
          have HROW := hide hrow'
          have HB' := hide hb'
          have y6 := (unhide HV6).cellOf (unhide Y1) id
          have l6 := (unhide HV6).cellOf (unhide XL) id
          have f6 : w6.frozen? ⟨gl, k, none⟩ = false := by rw [World.frozen?_of_block (w := X) ((unhide HV6).block gl (World.block_lt_of_cell? X _ (unhide XL)) id)]; exact unhide XF
          refine hK.out _ _ y6 (fun hNew => ?_)
          clear hown hgr hnil hrow' hb' hi hz0 hz1 hz2 i0 hl2 HV OWp NBq
          clear hK K hHeld
          have hHeld := hNew
          clear hNew
          try simp only [Act.put, List.setIfInBounds_toArray]
          refine take_at 19 45 (v := ?_) rfl rfl (by kernel_rfl) (by kernel_rfl) (by kernel_rfl) (Or.inl ⟨by rfl, ?_⟩) hHeld ?_
          rotate_left
          · intro w hSw; go_simp; with_reducible rfl
          simp only [Act.put, List.setIfInBounds_toArray, List.set_cons_zero, List.set_cons_succ]
          refine wpAnyH_ready (rs := [20]) (by kernel_rfl) (by simp) ?_
          refine AllReadyH.cons rfl (fun K hK => ?_) AllReadyH.nil
          go_simp
          refine hK.out _ _ ((World.cell?_setCell_far _ _ _ _ (unhide HGB)).trans y6) (fun hNew => ?_)
          clear hK K hHeld hNew
          refine wpAnyH_done (by kernel_rfl) ?_ _
          refine NoPanic.normal ?_
          clear y6 l6 f6
          have END := hide (rstore_end (unhide HR1) k q v hk (unhide HV6) g' cap' (unhide HB') (unhide HROW))
          clear HV6 HROW HB'
          go_wp2_with fail
          go_ret
          obtain ⟨F', ads', caps', r1, r2, r3⟩ := unhide END
          rw [unhide HSF]
          try rw [he]
          exact ⟨rfl, F', ads', caps', r1, (unhide HK1).trans' r2, fun x hx => (r3 x hx).imp id fun h => Nat.le_trans (unhide HK1).size h⟩
      · skip
        go_simp
        refine hK.out _ _ (cell_under hHeld _) (fun hNew => ?_)
        have NBq : Hid ((V.alloc (.cells #[.int .i64 (q : Int), .int .u64 v, .bool false, .bool false, .bool false, .bool false, .bool false, .bool false, .bool false, .bool false] 195)).heap[V.heap.size]? = some (.cells (newD q v) 195 (0, 0))) := heap_new V _
        have HV1 : Hid (Keeps (fun _ => False) X (V.alloc (.cells #[.int .i64 (q : Int), .int .u64 v, .bool false, .bool false, .bool false, .bool false, .bool false, .bool false, .bool false, .bool false] 195))) := (unhide HV).alloc _
        clear HV
        have HV := HV1
        clear HV1
        try (have OW1 := hide ((unhide OWa).alloc (.cells #[.int .i64 (q : Int), .int .u64 v, .bool false, .bool false, .bool false, .bool false, .bool false, .bool false, .bool false, .bool false] 195)); clear OWa; have OWa := OW1; clear OW1)
        try (have OW1 := hide ((unhide OWp).alloc (.cells #[.int .i64 (q : Int), .int .u64 v, .bool false, .bool false, .bool false, .bool false, .bool false, .bool false, .bool false, .bool false] 195)); clear OWp; have OWp := OW1; clear OW1)
        obtain ⟨nb, hnb⟩ : ∃ nb, nb = V.heap.size := ⟨_, rfl⟩
        rw [← hnb] at NBq ⊢
        clear hnb
        obtain ⟨V, hV⟩ : ∃ V' : World, V' = V.alloc (.cells #[.int .i64 (q : Int), .int .u64 v, .bool false, .bool false, .bool false, .bool false, .bool false, .bool false, .bool false, .bool false] 195) := ⟨_, rfl⟩
        rw [← hV] at NBq HV hNew ⊢
        try rw [← hV] at OWa
        try rw [← hV] at OWp
        clear hV
        clear hK K hHeld
        have hHeld := hNew
        clear hNew
        try simp only [Act.put, List.setIfInBounds_toArray]
        refine wpAnyH_ready (rs := [5]) (by kernel_rfl) (by simp) ?_
        refine AllReadyH.cons rfl (fun K hK => ?_) AllReadyH.nil
        go_simp
        refine hK.out _ _ (cell_under hHeld _) (fun hNew => ?_)
        have OWa : Hid ((V.alloc (.cells #[] 195)).ownsRow X.heap.size 195 10 (.slice (some ⟨V.heap.size, 0, none⟩) 0 0) 0 []) := World.ownsRow_lit (base := X.heap.size) (e := 195) (size := 10) V #[] 0 (unhide HV).size (by decide) rfl
        have HV1 : Hid (Keeps (fun _ => False) X (V.alloc (.cells #[] 195))) := (unhide HV).alloc _
        clear HV
        have HV := HV1
        clear HV1
        try (have NB1 := hide ((Below.heap_alloc V (.cells #[] 195) nb (lt_of_block (unhide NBq))).trans (unhide NBq)); clear NBq; have NBq := NB1; clear NB1)
        have HEX : Hid (X.heap.size ≤ V.heap.size) := by
          have h1 : X.heap.size ≤ V.heap.size := by have := (unhide OWa).2; rcases this with ⟨h', _⟩ | ⟨g', _, _, h', h2, _⟩; simp at h'; simp at h'; obtain ⟨rfl, _⟩ := h'; exact h2
          exact h1
        obtain ⟨E, hE⟩ : ∃ E, E = V.heap.size := ⟨_, rfl⟩
        rw [← hE] at OWa HEX ⊢
        clear hE
        obtain ⟨V, hV⟩ : ∃ V' : World, V' = V.alloc (.cells #[] 195) := ⟨_, rfl⟩
        rw [← hV] at OWa HV hNew ⊢
        try rw [← hV] at NBq
        clear hV
        clear hK K hHeld
        have hHeld := hNew
        clear hNew
        try simp only [Act.put, List.setIfInBounds_toArray]
        refine wpAnyH_ready (rs := [13]) (by kernel_rfl) (by simp) ?_
        refine AllReadyH.cons rfl (fun K hK => ?_) AllReadyH.nil
        refine (if_pos (by rfl)).mpr ?_
        obtain ⟨i0, hi, hz0, hz1, hz2⟩ := info_parts info_done
        refine wp_append_src (.tmp 31) (.tmp 38) 185 rfl X.heap.size 195 i0 _ 10 24 Tryz.underlying185 hi hz0 hz1 hz2 rfl (by decide) (.slice (some ⟨E, 0, none⟩) 0 0) 0 [] rfl (unhide OWa) ao (A.l k).t.length (caps k) (doneV (A.l k)) rfl (unhide SNO) (doneV_len _) (unhide SCE V (unhide HV)) (doneV_one _) (by unfold maxLen; omega) (by omega) (unhide HV).size ?_
        intro v1 w4 hown hgr hnil
        rw [Nat.zero_add, List.nil_append] at hown
        have OWp := hide hown
        have HN1 : Hid (v1 ≠ .slice none 0 0) := hnil (by simp)
        have HV1 : Hid (Keeps (fun _ => False) X w4) := Keeps.grown (unhide HV) hgr (fun k hk => by simp [Value.ownBlock] at hk; right; have := unhide HEX; omega)
        try (have NB1 := hide ((hgr.block nb (lt_of_block (unhide NBq)) (fun e => own_ne (unhide OWa) (unhide NBq) (by simpa [Value.ownBlock] using e))).trans (unhide NBq)); clear NBq; have NBq := NB1; clear NB1)
        refine hK.out _ _ ((unhide HV1).cellOf (unhide Y1) id) (fun hNew => ?_)
        clear HV OWa hown hgr hnil hi hz0 hz1 hz2 i0
        have HV := HV1
        clear HV1
        obtain ⟨V, hV⟩ : ∃ V' : World, V' = w4 := ⟨_, rfl⟩
        rw [← hV] at OWp HV hNew ⊢
        try rw [← hV] at NBq
        clear hV
        clear hK K hHeld
        have hHeld := hNew
        clear hNew
        try simp only [Act.put, List.setIfInBounds_toArray]
        refine wpAnyH_ready (rs := [18]) (by kernel_rfl) (by simp) ?_
        refine AllReadyH.cons rfl (fun K hK => ?_) AllReadyH.nil
        refine (if_pos (by rfl)).mpr ?_
        obtain ⟨i0, hi, hz0, hz1, hz2⟩ := info_parts info_done
        refine wp_append_own _ (.tmp 39) (.tmp 43) 185 rfl X.heap.size 195 i0 _ 10 24 Tryz.underlying185 hi hz0 hz1 hz2 rfl (by decide) v1 (A.l k).t.length (doneV (A.l k)) rfl (unhide OWp) ⟨nb, 0, none⟩ 1 1 (newD q v).toList rfl rfl (fun j u hj => by rw [Addr.add_mid, Nat.zero_add, cell_of_block (unhide NBq)]; rw [Array.getElem?_toList] at hj; exact hj) (by intro u hu; simp [newD] at hu; rcases hu with rfl | rfl | rfl <;> rfl) (by unfold maxLen; omega) (by omega) (unhide HV).size ?_
        intro v2 w6 hown hgr hnil
        rw [← doneV_store (A.l k) q v (unhide HFL)] at hown
        have hl2 : (A.l k).t.length + 1 = ((A.l k).store q v).t.length := by simp [Ln.store]
        rw [hl2] at hown
        obtain ⟨g', cap', rfl, hb', hrow'⟩ := rrow_new hown (fun h => unhide HN1 (hnil.1 h).1)
        rw [← hl2]
        have HV6 : Hid (Keeps (fun _ => False) X w6) := Keeps.grown (unhide HV) hgr (fun k hk => by
          right
          rcases (unhide OWp).2 with ⟨h1, _⟩ | ⟨g2, _, _, h1, h2, _⟩
          · rw [h1] at hk; simp [Value.ownBlock] at hk
          · rw [h1] at hk; simp [Value.ownBlock] at hk; omega)
        have HROW := hide hrow'
        have HB' := hide hb'
        have y6 := (unhide HV6).cellOf (unhide Y1) id
        have l6 := (unhide HV6).cellOf (unhide XL) id
        have f6 : w6.frozen? ⟨gl, k, none⟩ = false := by rw [World.frozen?_of_block (w := X) ((unhide HV6).block gl (World.block_lt_of_cell? X _ (unhide XL)) id)]; exact unhide XF
        refine hK.out _ _ y6 (fun hNew => ?_)
        clear hown hgr hnil hrow' hb' hi hz0 hz1 hz2 i0 hl2 HV OWp NBq
        clear hK K hHeld
        have hHeld := hNew
        clear hNew
        try simp only [Act.put, List.setIfInBounds_toArray]
        refine take_at 19 45 (v := ?_) rfl rfl (by kernel_rfl) (by kernel_rfl) (by kernel_rfl) (Or.inl ⟨by rfl, ?_⟩) hHeld ?_
        rotate_left
        · intro w hSw; go_simp; with_reducible rfl
        simp only [Act.put, List.setIfInBounds_toArray, List.set_cons_zero, List.set_cons_succ]
        refine wpAnyH_ready (rs := [20]) (by kernel_rfl) (by simp) ?_
        refine AllReadyH.cons rfl (fun K hK => ?_) AllReadyH.nil
        go_simp
        refine hK.out _ _ ((World.cell?_setCell_far _ _ _ _ (unhide HGB)).trans y6) (fun hNew => ?_)
        clear hK K hHeld hNew
        refine wpAnyH_done (by kernel_rfl) ?_ _
        refine NoPanic.normal ?_
        clear y6 l6 f6
        have END := hide (rstore_end (unhide HR1) k q v hk (unhide HV6) g' cap' (unhide HB') (unhide HROW))
        clear HV6 HROW HB'
        go_wp2_with fail
        go_ret
        obtain ⟨F', ads', caps', r1, r2, r3⟩ := unhide END
        rw [unhide HSF]
        try rw [he]
        exact ⟨rfl, F', ads', caps', r1, (unhide HK1).trans' r2, fun x hx => (r3 x hx).imp id fun h => Nat.le_trans (unhide HK1).size h⟩
    · skip
      go_simp
      refine hK.out _ _ (cell_under hHeld _) (fun hNew => ?_)
      have NBq : Hid ((V.alloc (.cells #[.int .i64 (q : Int), .int .u64 v, .bool false, .bool false, .bool false, .bool false, .bool false, .bool false, .bool false, .bool false] 195)).heap[V.heap.size]? = some (.cells (newD q v) 195 (0, 0))) := heap_new V _
      have HV1 : Hid (Keeps (fun _ => False) X (V.alloc (.cells #[.int .i64 (q : Int), .int .u64 v, .bool false, .bool false, .bool false, .bool false, .bool false, .bool false, .bool false, .bool false] 195))) := (unhide HV).alloc _
      clear HV
      have HV := HV1
      clear HV1
      try (have OW1 := hide ((unhide OWa).alloc (.cells #[.int .i64 (q : Int), .int .u64 v, .bool false, .bool false, .bool false, .bool false, .bool false, .bool false, .bool false, .bool false] 195)); clear OWa; have OWa := OW1; clear OW1)
      try (have OW1 := hide ((unhide OWp).alloc (.cells #[.int .i64 (q : Int), .int .u64 v, .bool false, .bool false, .bool false, .bool false, .bool false, .bool false, .bool false, .bool false] 195)); clear OWp; have OWp := OW1; clear OW1)
      obtain ⟨nb, hnb⟩ : ∃ nb, nb = V.heap.size := ⟨_, rfl⟩
      rw [← hnb] at NBq ⊢
      clear hnb
      obtain ⟨V, hV⟩ : ∃ V' : World, V' = V.alloc (.cells #[.int .i64 (q : Int), .int .u64 v, .bool false, .bool false, .bool false, .bool false, .bool false, .bool false, .bool false, .bool false] 195) := ⟨_, rfl⟩
      rw [← hV] at NBq HV hNew ⊢
      try rw [← hV] at OWa
      try rw [← hV] at OWp
      clear hV
      clear hK K hHeld
      have hHeld := hNew
      clear hNew
      try simp only [Act.put, List.setIfInBounds_toArray]
      refine wpAnyH_ready (rs := [5, 12]) (by kernel_rfl) (by simp) ?_
      refine AllReadyH.cons rfl (fun K hK => ?_) (AllReadyH.cons rfl (fun K hK => ?_) AllReadyH.nil)
      · skip
        go_simp
        refine hK.out _ _ (cell_under hHeld _) (fun hNew => ?_)
        have OWa : Hid ((V.alloc (.cells #[] 195)).ownsRow X.heap.size 195 10 (.slice (some ⟨V.heap.size, 0, none⟩) 0 0) 0 []) := World.ownsRow_lit (base := X.heap.size) (e := 195) (size := 10) V #[] 0 (unhide HV).size (by decide) rfl
        have HV1 : Hid (Keeps (fun _ => False) X (V.alloc (.cells #[] 195))) := (unhide HV).alloc _
        clear HV
        have HV := HV1
        clear HV1
        try (have NB1 := hide ((Below.heap_alloc V (.cells #[] 195) nb (lt_of_block (unhide NBq))).trans (unhide NBq)); clear NBq; have NBq := NB1; clear NB1)
        have HEX : Hid (X.heap.size ≤ V.heap.size) := by
          have h1 : X.heap.size ≤ V.heap.size := by have := (unhide OWa).2; rcases this with ⟨h', _⟩ | ⟨g', _, _, h', h2, _⟩; simp at h'; simp at h'; obtain ⟨rfl, _⟩ := h'; exact h2
          exact h1
        obtain ⟨E, hE⟩ : ∃ E, E = V.heap.size := ⟨_, rfl⟩
        rw [← hE] at OWa HEX ⊢
        clear hE
        obtain ⟨V, hV⟩ : ∃ V' : World, V' = V.alloc (.cells #[] 195) := ⟨_, rfl⟩
        rw [← hV] at OWa HV hNew ⊢
        try rw [← hV] at NBq
        clear hV
        clear hK K hHeld
        have hHeld := hNew
        clear hNew
        try simp only [Act.put, List.setIfInBounds_toArray]
        refine wpAnyH_ready (rs := [12]) (by kernel_rfl) (by simp) ?_
        refine AllReadyH.cons rfl (fun K hK => ?_) AllReadyH.nil
        have xl := (unhide HV).cellOf (unhide XL) id
        go_simp
        clear xl
        refine hK.out _ _ hHeld (fun hNew => ?_)
        clear hK K hHeld
        have hHeld := hNew
        clear hNew
        try simp only [Act.put, List.setIfInBounds_toArray]
        refine wpAnyH_ready (rs := [13]) (by kernel_rfl) (by simp) ?_
        refine AllReadyH.cons rfl (fun K hK => ?_) AllReadyH.nil
        refine (if_pos (by rfl)).mpr ?_
        obtain ⟨i0, hi, hz0, hz1, hz2⟩ := info_parts info_done
        refine wp_append_src (.tmp 31) (.tmp 38) 185 rfl X.heap.size 195 i0 _ 10 24 Tryz.underlying185 hi hz0 hz1 hz2 rfl (by decide) (.slice (some ⟨E, 0, none⟩) 0 0) 0 [] rfl (unhide OWa) ao (A.l k).t.length (caps k) (doneV (A.l k)) rfl (unhide SNO) (doneV_len _) (unhide SCE V (unhide HV)) (doneV_one _) (by unfold maxLen; omega) (by omega) (unhide HV).size ?_
        intro v1 w4 hown hgr hnil
        rw [Nat.zero_add, List.nil_append] at hown
        have OWp := hide hown
        have HN1 : Hid (v1 ≠ .slice none 0 0) := hnil (by simp)
        have HV1 : Hid (Keeps (fun _ => False) X w4) := Keeps.grown (unhide HV) hgr (fun k hk => by simp [Value.ownBlock] at hk; right; have := unhide HEX; omega)
        try (have NB1 := hide ((hgr.block nb (lt_of_block (unhide NBq)) (fun e => own_ne (unhide OWa) (unhide NBq) (by simpa [Value.ownBlock] using e))).trans (unhide NBq)); clear NBq; have NBq := NB1; clear NB1)
        refine hK.out _ _ ((unhide HV1).cellOf (unhide Y1) id) (fun hNew => ?_)
        clear HV OWa hown hgr hnil hi hz0 hz1 hz2 i0
        have HV := HV1
        clear HV1
        obtain ⟨V, hV⟩ : ∃ V' : World, V' = w4 := ⟨_, rfl⟩
        rw [← hV] at OWp HV hNew ⊢
        try rw [← hV] at NBq
        clear hV
        clear hK K hHeld
        have hHeld := hNew
        clear hNew
        try simp only [Act.put, List.setIfInBounds_toArray]
        refine wpAnyH_ready (rs := [18]) (by kernel_rfl) (by simp) ?_
        refine AllReadyH.cons rfl (fun K hK => ?_) AllReadyH.nil
        refine (if_pos (by rfl)).mpr ?_
        obtain ⟨i0, hi, hz0, hz1, hz2⟩ := info_parts info_done
        refine wp_append_own _ (.tmp 39) (.tmp 43) 185 rfl X.heap.size 195 i0 _ 10 24 Tryz.underlying185 hi hz0 hz1 hz2 rfl (by decide) v1 (A.l k).t.length (doneV (A.l k)) rfl (unhide OWp) ⟨nb, 0, none⟩ 1 1 (newD q v).toList rfl rfl (fun j u hj => by rw [Addr.add_mid, Nat.zero_add, cell_of_block (unhide NBq)]; rw [Array.getElem?_toList] at hj; exact hj) (by intro u hu; simp [newD] at hu; rcases hu with rfl | rfl | rfl <;> rfl) (by unfold maxLen; omega) (by omega) (unhide HV).size ?_
        intro v2 w6 hown hgr hnil
        rw [← doneV_store (A.l k) q v (unhide HFL)] at hown
        have hl2 : (A.l k).t.length + 1 = ((A.l k).store q v).t.length := by simp [Ln.store]
        rw [hl2] at hown
        obtain ⟨g', cap', rfl, hb', hrow'⟩ := rrow_new hown (fun h => unhide HN1 (hnil.1 h).1)
        rw [← hl2]
        have HV6 : Hid (Keeps (fun _ => False) X w6) := Keeps.grown (unhide HV) hgr (fun k hk => by
          right
          rcases (unhide OWp).2 with ⟨h1, _⟩ | ⟨g2, _, _, h1, h2, _⟩
          · rw [h1] at hk; simp [Value.ownBlock] at hk
          · rw [h1] at hk; simp [Value.ownBlock] at hk; omega)
        have HROW := hide hrow'
        have HB' := hide hb'
        have y6 := (unhide HV6).cellOf (unhide Y1) id
        have l6 := (unhide HV6).cellOf (unhide XL) id
        have f6 : w6.frozen? ⟨gl, k, none⟩ = false := by rw [World.frozen?_of_block (w := X) ((unhide HV6).block gl (World.block_lt_of_cell? X _ (unhide XL)) id)]; exact unhide XF
        refine hK.out _ _ y6 (fun hNew => ?_)
        clear hown hgr hnil hrow' hb' hi hz0 hz1 hz2 i0 hl2 HV OWp NBq
        clear hK K hHeld
        have hHeld := hNew
        clear hNew
        try simp only [Act.put, List.setIfInBounds_toArray]
        refine take_at 19 45 (v := ?_) rfl rfl (by kernel_rfl) (by kernel_rfl) (by kernel_rfl) (Or.inl ⟨by rfl, ?_⟩) hHeld ?_
        rotate_left
        · intro w hSw; go_simp; with_reducible rfl
        simp only [Act.put, List.setIfInBounds_toArray, List.set_cons_zero, List.set_cons_succ]
        refine wpAnyH_ready (rs := [20]) (by kernel_rfl) (by simp) ?_
        refine AllReadyH.cons rfl (fun K hK => ?_) AllReadyH.nil
        go_simp
        refine hK.out _ _ ((World.cell?_setCell_far _ _ _ _ (unhide HGB)).trans y6) (fun hNew => ?_)
        clear hK K hHeld hNew
        refine wpAnyH_done (by kernel_rfl) ?_ _
        refine NoPanic.normal ?_
        clear y6 l6 f6
        have END := hide (rstore_end (unhide HR1) k q v hk (unhide HV6) g' cap' (unhide HB') (unhide HROW))
        clear HV6 HROW HB'
        go_wp2_with fail
        go_ret
        obtain ⟨F', ads', caps', r1, r2, r3⟩ := unhide END
        rw [unhide HSF]
        try rw [he]
        exact ⟨rfl, F', ads', caps', r1, (unhide HK1).trans' r2, fun x hx => (r3 x hx).imp id fun h => Nat.le_trans (unhide HK1).size h⟩
      · skip
        have xl := (unhide HV).cellOf (unhide XL) id
        go_simp
        clear xl
        refine hK.out _ _ hHeld (fun hNew => ?_)
        clear hK K hHeld
        have hHeld := hNew
        clear hNew
        try simp only [Act.put, List.setIfInBounds_toArray]
        refine wpAnyH_ready (rs := [5]) (by kernel_rfl) (by simp) ?_
        refine AllReadyH.cons rfl (fun K hK => ?_) AllReadyH.nil
        go_simp
        refine hK.out _ _ (cell_under hHeld _) (fun hNew => ?_)
        have OWa : Hid ((V.alloc (.cells #[] 195)).ownsRow X.heap.size 195 10 (.slice (some ⟨V.heap.size, 0, none⟩) 0 0) 0 []) := World.ownsRow_lit (base := X.heap.size) (e := 195) (size := 10) V #[] 0 (unhide HV).size (by decide) rfl
        have HV1 : Hid (Keeps (fun _ => False) X (V.alloc (.cells #[] 195))) := (unhide HV).alloc _
        clear HV
        have HV := HV1
        clear HV1
        try (have NB1 := hide ((Below.heap_alloc V (.cells #[] 195) nb (lt_of_block (unhide NBq))).trans (unhide NBq)); clear NBq; have NBq := NB1; clear NB1)
        have HEX : Hid (X.heap.size ≤ V.heap.size) := by
          have h1 : X.heap.size ≤ V.heap.size := by have := (unhide OWa).2; rcases this with ⟨h', _⟩ | ⟨g', _, _, h', h2, _⟩; simp at h'; simp at h'; obtain ⟨rfl, _⟩ := h'; exact h2
          exact h1
        obtain ⟨E, hE⟩ : ∃ E, E = V.heap.size := ⟨_, rfl⟩
        rw [← hE] at OWa HEX ⊢
        clear hE
        obtain ⟨V, hV⟩ : ∃ V' : World, V' = V.alloc (.cells #[] 195) := ⟨_, rfl⟩
        rw [← hV] at OWa HV hNew ⊢
        try rw [← hV] at NBq
        clear hV
        clear hK K hHeld
        have hHeld := hNew
        clear hNew
        try simp only [Act.put, List.setIfInBounds_toArray]
        refine wpAnyH_ready (rs := [13]) (by kernel_rfl) (by simp) ?_
        refine AllReadyH.cons rfl (fun K hK => ?_) AllReadyH.nil
        refine (if_pos (by rfl)).mpr ?_
        obtain ⟨i0, hi, hz0, hz1, hz2⟩ := info_parts info_done
        refine wp_append_src (.tmp 31) (.tmp 38) 185 rfl X.heap.size 195 i0 _ 10 24 Tryz.underlying185 hi hz0 hz1 hz2 rfl (by decide) (.slice (some ⟨E, 0, none⟩) 0 0) 0 [] rfl (unhide OWa) ao (A.l k).t.length (caps k) (doneV (A.l k)) rfl (unhide SNO) (doneV_len _) (unhide SCE V (unhide HV)) (doneV_one _) (by unfold maxLen; omega) (by omega) (unhide HV).size ?_
        intro v1 w4 hown hgr hnil
        rw [Nat.zero_add, List.nil_append] at hown
        have OWp := hide hown
        have HN1 : Hid (v1 ≠ .slice none 0 0) := hnil (by simp)
        have HV1 : Hid (Keeps (fun _ => False) X w4) := Keeps.grown (unhide HV) hgr (fun k hk => by simp [Value.ownBlock] at hk; right; have := unhide HEX; omega)
        try (have NB1 := hide ((hgr.block nb (lt_of_block (unhide NBq)) (fun e => own_ne (unhide OWa) (unhide NBq) (by simpa [Value.ownBlock] using e))).trans (unhide NBq)); clear NBq; have NBq := NB1; clear NB1)
        refine hK.out _ _ ((unhide HV1).cellOf (unhide Y1) id) (fun hNew => ?_)
        clear HV OWa hown hgr hnil hi hz0 hz1 hz2 i0
        have HV := HV1
        clear HV1
        obtain ⟨V, hV⟩ : ∃ V' : World, V' = w4 := ⟨_, rfl⟩
        rw [← hV] at OWp HV hNew ⊢
        try rw [← hV] at NBq
        clear hV
        clear hK K hHeld
        have hHeld := hNew
        clear hNew
        try simp only [Act.put, List.setIfInBounds_toArray]
        refine wpAnyH_ready (rs := [18]) (by kernel_rfl) (by simp) ?_
        refine AllReadyH.cons rfl (fun K hK => ?_) AllReadyH.nil
        refine (if_pos (by rfl)).mpr ?_
        obtain ⟨i0, hi, hz0, hz1, hz2⟩ := info_parts info_done
        refine wp_append_own _ (.tmp 39) (.tmp 43) 185 rfl X.heap.size 195 i0 _ 10 24 Tryz.underlying185 hi hz0 hz1 hz2 rfl (by decide) v1 (A.l k).t.length (doneV (A.l k)) rfl (unhide OWp) ⟨nb, 0, none⟩ 1 1 (newD q v).toList rfl rfl (fun j u hj => by rw [Addr.add_mid, Nat.zero_add, cell_of_block (unhide NBq)]; rw [Array.getElem?_toList] at hj; exact hj) (by intro u hu; simp [newD] at hu; rcases hu with rfl | rfl | rfl <;> rfl) (by unfold maxLen; omega) (by omega) (unhide HV).size ?_
        intro v2 w6 hown hgr hnil
        rw [← doneV_store (A.l k) q v (unhide HFL)] at hown
        have hl2 : (A.l k).t.length + 1 = ((A.l k).store q v).t.length := by simp [Ln.store]
        rw [hl2] at hown
        obtain ⟨g', cap', rfl, hb', hrow'⟩ := rrow_new hown (fun h => unhide HN1 (hnil.1 h).1)
        rw [← hl2]
        have HV6 : Hid (Keeps (fun _ => False) X w6) := Keeps.grown (unhide HV) hgr (fun k hk => by
          right
          rcases (unhide OWp).2 with ⟨h1, _⟩ | ⟨g2, _, _, h1, h2, _⟩
          · rw [h1] at hk; simp [Value.ownBlock] at hk
          · rw [h1] at hk; simp [Value.ownBlock] at hk; omega)
        have HROW := hide hrow'
        have HB' := hide hb'
        have y6 := (unhide HV6).cellOf (unhide Y1) id
        have l6 := (unhide HV6).cellOf (unhide XL) id
        have f6 : w6.frozen? ⟨gl, k, none⟩ = false := by rw [World.frozen?_of_block (w := X) ((unhide HV6).block gl (World.block_lt_of_cell? X _ (unhide XL)) id)]; exact unhide XF
        refine hK.out _ _ y6 (fun hNew => ?_)
        clear hown hgr hnil hrow' hb' hi hz0 hz1 hz2 i0 hl2 HV OWp NBq
        clear hK K hHeld
        have hHeld := hNew
        clear hNew
        try simp only [Act.put, List.setIfInBounds_toArray]
        refine take_at 19 45 (v := ?_) rfl rfl (by kernel_rfl) (by kernel_rfl) (by kernel_rfl) (Or.inl ⟨by rfl, ?_⟩) hHeld ?_
        rotate_left
        · intro w hSw; go_simp; with_reducible rfl
        simp only [Act.put, List.setIfInBounds_toArray, List.set_cons_zero, List.set_cons_succ]
        refine wpAnyH_ready (rs := [20]) (by kernel_rfl) (by simp) ?_
        refine AllReadyH.cons rfl (fun K hK => ?_) AllReadyH.nil
        go_simp
        refine hK.out _ _ ((World.cell?_setCell_far _ _ _ _ (unhide HGB)).trans y6) (fun hNew => ?_)
        clear hK K hHeld hNew
        refine wpAnyH_done (by kernel_rfl) ?_ _
        refine NoPanic.normal ?_
        clear y6 l6 f6
        have END := hide (rstore_end (unhide HR1) k q v hk (unhide HV6) g' cap' (unhide HB') (unhide HROW))
        clear HV6 HROW HB'
        go_wp2_with fail
        go_ret
        obtain ⟨F', ads', caps', r1, r2, r3⟩ := unhide END
        rw [unhide HSF]
        try rw [he]
        exact ⟨rfl, F', ads', caps', r1, (unhide HK1).trans' r2, fun x hx => (r3 x hx).imp id fun h => Nat.le_trans (unhide HK1).size h⟩
  · have hm' : A.may = false := by simpa using hm
    have he := err_off A hm'
    have HSF : Hid (A.store k q v = A.off) := step_off A _ hm'
    have HSL := hide (step_off A A.l hm')
    go_enter Tryz.func78, Tryz.ntmps78
    go_wp2_with fail
    refine (ris_any (unhide H) _).mono ?_
    rintro e w1 ⟨rfl, rfl⟩
    rw [D1]
    go_wp2_with fail
    refine (unhide CT).mono ?_
    rintro e w1 ⟨rfl, hr1, hk1⟩
    rw [unhide HSL] at hr1
    have HR1 := hide hr1
    have HK1 := hide hk1
    rw [he]
    clear hr1 hk1 CT
    go_wp2_with fail
    go_ret
    rw [he, unhide HSF]
    exact ⟨rfl, F, ads, caps, unhide HR1, unhide HK1, Grew.refl _ _⟩

theorem rstore_bad (h : RRep w F b A gs cs gl ads caps) (z y v : Int) (hz : ¬ (A.isZ z ∧ is8 y)) :
    Calls Tryz.prog 78 #[.pointer (some ⟨b, 0, none⟩), .int .i64 z, .int .i64 y, .int .u64 v] w (RWent F w b gs cs gl A (.int .i64 1)) := by
  have H := hide h
  clear h
  by_cases h1 : 0 ≤ z ∧ z < (A.n : Int)
  · have D1 : decide ((0 : Int) ≤ z ∧ z < (A.n : Int)) = true := by simpa using h1
    have h2 : ¬ (0 ≤ y ∧ y < 8) := fun h => hz ⟨h1, h⟩
    clear h1 hz
    by_cases y0 : y < 0
    · clear h2
      go_enter Tryz.func78, Tryz.ntmps78
      go_wp2_with fail
      refine (ris_any (unhide H) _).mono ?_
      rintro e w1 ⟨rfl, rfl⟩
      rw [D1]
      go_wp2_with fail
      go_ret
      exact ⟨rfl, F, ads, caps, unhide H, Keeps.refl _ _, Grew.refl _ _⟩
    · have y7 : 7 < y := by omega
      clear h2
      go_enter Tryz.func78, Tryz.ntmps78
      go_wp2_with fail
      refine (ris_any (unhide H) _).mono ?_
      rintro e w1 ⟨rfl, rfl⟩
      rw [D1]
      go_wp2_with fail
      go_ret
      exact ⟨rfl, F, ads, caps, unhide H, Keeps.refl _ _, Grew.refl _ _⟩
  · have D1 : decide ((0 : Int) ≤ z ∧ z < (A.n : Int)) = false := by simpa using h1
    clear h1 hz
    go_enter Tryz.func78, Tryz.ntmps78
    go_wp2_with fail
    refine (ris_any (unhide H) _).mono ?_
    rintro e w1 ⟨rfl, rfl⟩
    rw [D1]
    go_wp2_with fail
    go_ret
    exact ⟨rfl, F, ads, caps, unhide H, Keeps.refl _ _, Grew.refl _ _⟩

theorem rstore_any (h : RRep w F b A gs cs gl ads caps) (hok : A.ok 1000) (z y v : Int) :
    Calls Tryz.prog 78 #[.pointer (some ⟨b, 0, none⟩), .int .i64 z, .int .i64 y, .int .u64 v] w (RWent F w b gs cs gl (A.storeZ z y v) (.int .i64 (A.storeE z y))) := by
  unfold Mm.storeZ Mm.storeE
  by_cases c : A.isZ z ∧ is8 y
  · rw [if_pos c, if_pos c]
    obtain ⟨⟨c1, c2⟩, c3, c4⟩ := c
    have := rstore_good h hok z.toNat y.toNat v (by omega) (by omega)
    rw [show ((y.toNat : Nat) : Int) = y by omega, show ((z.toNat : Nat) : Int) = z by omega] at this
    exact this
  · rw [if_neg c, if_neg c]
    exact rstore_bad h z y v c
end

end Go.Proofs.YtinhnnnehhlceaaGreat
