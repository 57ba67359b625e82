
/-
  A state that lies in memory (a memory, or two of them), beside blocks of the call's own, kept track of through a call: once for all such states.
-/
import Derived.Test.YtiafhcgaikapcaaGreatPkNvm
namespace Go.Proofs.YtiafhcgaikapcaaGreat
open Go.ChangeShapes Go.WideShapes Go.ChangeAt Go.RowKit Go.Joins
set_option linter.unusedVariables false

/-- What a state must stand: new blocks, blocks of the call's own that are written, what turns nothing that was there. -/
structure Stay (W : World) (St : World → (Nat → Prop) → Prop) : Prop where
  al : ∀ w G o, St w G → St (w.alloc o) (fun k => G k ∨ k = w.heap.size)
  ls : ∀ w G G', St w G → (∀ k, G' k → G k) → St w G'
  bl : ∀ w w' G, St w G → Keeps (fun _ => False) w w' → St w' G
  ow : ∀ w w' G L, St w G → G L → W.heap.size ≤ L → Keeps (· = L) w w' → St w' G
  lt : ∀ w G, St w G → ∀ k, G k → k < w.heap.size
  sz : ∀ w G, St w G → Keeps (fun _ => False) W w
def Held (W : World) (St : World → (Nat → Prop) → Prop) (w0 w : World) (G : Nat → Prop) (L : List (Nat × Obj)) : Prop :=
  St w (fun k => G k ∨ ∃ o, (k, o) ∈ L) ∧ (∀ p ∈ L, w.heap[p.1]? = some p.2 ∧ W.heap.size ≤ p.1 ∧ ¬ G p.1) ∧ Same G w0 w
/-- Behind a call: what it returned, the state, and that the caller's blocks are as they were. -/
def Done (St : World → (Nat → Prop) → Prop) (w : World) (G : Nat → Prop) (v : Value) (e : Ending) (w' : World) : Prop := e = .returned v ∧ St w' G ∧ Same G w w'

section
variable {W : World} {St St' : World → (Nat → Prop) → Prop} {w0 w w' : World} {G : Nat → Prop} {L : List (Nat × Obj)}
theorem Held.start (S : Stay W St) (h : St w G) : Held W St w w G [] := ⟨S.ls _ _ _ h (by simp), by simp, fun _ _ => rfl⟩
theorem Held.st (h : Held W St w0 w G L) : St w (fun k => G k ∨ ∃ o, (k, o) ∈ L) := h.1
theorem Held.at (h : Held W St w0 w G L) (g : Nat) (o : Obj) (hm : (g, o) ∈ L) : w.heap[g]? = some o := (h.2.1 _ hm).1
theorem Held.lt (h : Held W St w0 w G L) : ∀ p ∈ L, p.1 < w.heap.size := fun p hp => by
  rcases Nat.lt_or_ge p.1 w.heap.size with h' | h'
  · exact h'
  · have := (h.2.1 p hp).1; rw [Array.getElem?_eq_none h'] at this; simp at this
theorem Held.alloc (S : Stay W St) (h : Held W St w0 w G L) (o : Obj) : Held W St w0 (w.alloc o) G ((w.heap.size, o) :: L) := by
  refine ⟨S.ls _ _ _ (S.al _ _ o h.1) (fun k hk => ?_), fun p hp => ?_, fun k hk => ?_⟩
  · rcases hk with hk | ⟨o', hk⟩
    · exact Or.inl (Or.inl hk)
    · rcases List.mem_cons.1 hk with e | hk
      · exact Or.inr (congrArg Prod.fst e)
      · exact Or.inl (Or.inr ⟨o', hk⟩)
  · rcases List.mem_cons.1 hp with rfl | hp
    · refine ⟨heap_new w o, (S.sz _ _ h.1).size, fun hg => ?_⟩
      have := S.lt _ _ h.1 _ (Or.inl hg)
      simp at this
    · exact ⟨(Below.heap_alloc w o p.1 (h.lt p hp)).trans (h.2.1 p hp).1, (h.2.1 p hp).2⟩
  · exact (Below.heap_alloc w o k (S.lt _ _ h.1 k (Or.inl hk))).trans (h.2.2 k hk)
theorem Held.keeps (S : Stay W St) (h : Held W St w0 w G L) (hk : Keeps (fun _ => False) w w') : Held W St w0 w' G L :=
  ⟨S.bl _ _ _ h.1 hk, fun p hp => ⟨(hk.block p.1 (h.lt p hp) id).trans (h.2.1 p hp).1, (h.2.1 p hp).2⟩, fun k hg => (hk.block k (S.lt _ _ h.1 k (Or.inl hg)) id).trans (h.2.2 k hg)⟩
theorem Held.below (S : Stay W St) (h : Held W St w0 w G L) (hb : Below w.heap.size w w') : Held W St w0 w' G L := h.keeps S (Keeps.of_below hb)
theorem Held.drew (S : Stay W St) (h : Held W St w0 w G L) : Held W St w0 w.drew G L := h.keeps S (Keeps.refl _ _).drew
/-- Behind a call that turns the state. -/
theorem Held.call (h : Held W St w0 w G L) (h1 : St' w' (fun k => G k ∨ ∃ o, (k, o) ∈ L)) (h2 : Same (fun k => G k ∨ ∃ o, (k, o) ∈ L) w w') : Held W St' w0 w' G L :=
  ⟨h1, fun p hp => ⟨(h2 p.1 (Or.inr ⟨p.2, hp⟩)).trans (h.2.1 p hp).1, (h.2.1 p hp).2⟩, fun k hk => (h2 k (Or.inl hk)).trans (h.2.2 k hk)⟩
/-- A block of its own is written, the others stay. -/
theorem Held.row (S : Stay W St) (h : Held W St w0 w G L) (g : Nat) (ds : Array Value) (t : TypeId) (fr : Nat × Nat) (hm : (g, .cells ds t fr) ∈ L) (cs : Array Value) : Held W St w0 (w.setRow g cs) G ((g, .cells cs t fr) :: L.filter fun p => p.1 != g) := by
  have hg := h.2.1 _ hm
  have hk : Keeps (· = g) w (w.setRow g cs) := Keeps.setRow (F := (· = g)) (Keeps.refl _ _) (Or.inl rfl) _
  refine ⟨S.ls _ _ _ (S.ow _ _ _ g h.1 (Or.inr ⟨_, hm⟩) hg.2.1 hk) (fun k hk => ?_), fun p hp => ?_, fun k hk' => ?_⟩
  · rcases hk with hk | ⟨o', hk⟩
    · exact Or.inl hk
    · rcases List.mem_cons.1 hk with e | hk
      · cases e; exact Or.inr ⟨_, hm⟩
      · exact Or.inr ⟨o', (List.mem_filter.1 hk).1⟩
  · rcases List.mem_cons.1 hp with rfl | hp
    · exact ⟨setRow_heap _ _ _ _ _ _ hg.1, hg.2⟩
    · rw [List.mem_filter] at hp
      exact ⟨by rw [setRow_other _ _ _ _ (by simpa using hp.2)]; exact (h.2.1 p hp.1).1, (h.2.1 p hp.1).2⟩
  · rw [hk.block k (S.lt _ _ h.1 k (Or.inl hk')) (fun e => hg.2.2 (e ▸ hk'))]; exact h.2.2 k hk'
theorem Held.less (S : Stay W St) {L' : List (Nat × Obj)} (h : Held W St w0 w G L) (hs : ∀ p ∈ L', p ∈ L) : Held W St w0 w G L' :=
  ⟨S.ls _ _ _ h.1 (fun k hk => hk.imp id fun ⟨o, ho⟩ => ⟨o, hs _ ho⟩), fun p hp => h.2.1 p (hs p hp), h.2.2⟩
theorem Held.done (S : Stay W St) (h : Held W St w0 w G L) (v : Value) : Done St w0 G v (.returned v) w := ⟨rfl, S.ls _ _ _ h.1 (fun k hk => Or.inl hk), h.2.2⟩
end

theorem Has.stay (W : World) (b : Nat) (A : Mm) : Stay W (fun w G => Has W w G b A) where
  al := fun w G o h => h.alloc o
  ls := fun w G G' h hs => h.less hs
  bl := fun w w' G h hk => by
    obtain ⟨F, c, cs, h1, h2, h3, h4⟩ := h
    exact ⟨F, c, cs, h1.keeps hk fun _ _ => id, h2.trans' hk, h3, fun k hk' => ⟨(h4 k hk').1, Nat.lt_of_lt_of_le (h4 k hk').2 hk.size⟩⟩
  ow := fun w w' G L h hL hW hk => h.own hL hW hk
  lt := fun w G h => h.lt
  sz := fun w G h => h.keeps

end Go.Proofs.YtiafhcgaikapcaaGreat
