
/-
  A store of objects on a memory, in whatever company the memory stands: what must stand, and what a frames' call, a reader, a store of the memory leaves.
-/
import Derived.Test.YtjmgmbigbkllgaaOFind
import Derived.Test.YtjmgmbigbkllgaaOHasL
import Derived.Test.YtjmgmbigbkllgaaONext
import Derived.Test.YtjmgmbigbkllgaaHeld
namespace Go.Proofs.Ytjmgmbigbkllgaa
open Go.ChangeShapes Go.WideShapes Go.ChangeAt Go.RowKit Go.Joins
set_option maxRecDepth 10000
set_option linter.unusedVariables false
set_option linter.unusedSimpArgs false

/-- A memory in the block m, in whatever company: what its Store and Load leave. -/
structure MemL (W : World) (m : Nat) (St : Mm → World → (Nat → Prop) → Prop) : Prop where
  stay : ∀ A, Stay W (St A)
  store : ∀ w G A, St A w G → A.ok 1000 → ∀ z q v, Calls Try.prog 44 #[.pointer (some ⟨m, 0, none⟩), .int .i64 z, .int .i64 q, .int .u64 v] w (Done (St (A.storeZ z q v)) w G (.int .i64 (A.storeE z q)))
  lines : ∀ w G A, St A w G → Calls Try.prog 36 #[.pointer (some ⟨m, 0, none⟩)] w fun e w' => e = .returned (.int .i64 (A.n : Int)) ∧ w' = w
  load : ∀ w G A, St A w G → A.n ≤ 1024 → ∀ z, Calls Try.prog 21 #[.pointer (some ⟨m, 0, none⟩), .int .i64 z] w (Done (St A) w G (.tuple #[.agg (lnV (A.hasZ z)), .int .i64 (A.loadE z)]))
theorem Has.linesO {W w : World} {G : Nat → Prop} {b : Nat} {A : Mm} (h : Has W w G b A) : Calls Try.prog 36 #[.pointer (some ⟨b, 0, none⟩)] w fun e w' => e = .returned (.int .i64 (A.n : Int)) ∧ w' = w := by
  obtain ⟨F, c, cs, h1, h2, h3, h4⟩ := h
  exact lines_any h1
theorem Has.memL (W : World) (m : Nat) : MemL W m (fun A w G => Has W w G m A) where
  stay := fun A => Has.stay W m A
  store := fun w G A h hok z q v => (h.storeZ hok z q v).mono fun e w' ha => ha
  lines := fun w G A h => h.linesO
  load := fun w G A h hn z => (h.loadZ hn z).mono fun e w' ha => ha

/-- A store in the block b on the memory in m. -/
structure SHas (W : World) (m b : Nat) (St : Mm → World → (Nat → Prop) → Prop) (S : Sto) (A : Mm) (w : World) (G : Nat → Prop) : Prop where
  rep : SRep m S w b
  st : St A w (fun k => G k ∨ k = b)
  nb : ¬ G b
  new : W.heap.size ≤ b

section
variable {W w : World} {m b : Nat} {St : Mm → World → (Nat → Prop) → Prop} {S : Sto} {A : Mm} {G : Nat → Prop}
theorem SHas.lt (h : SHas W m b St S A w G) : b < w.heap.size := Blk.lt h.rep
theorem SHas.stay (M : MemL W m St) (b : Nat) (S : Sto) (A : Mm) : Stay W (SHas W m b St S A) where
  al := fun w G o h => ⟨Blk.alloc h.rep o, (M.stay A).ls _ _ _ ((M.stay A).al _ _ o h.st) (fun k hk => by
    rcases hk with (hk | hk) | hk
    · exact Or.inl (Or.inl hk)
    · exact Or.inr hk
    · exact Or.inl (Or.inr hk)), fun hk => by
    rcases hk with hk | hk
    · exact h.nb hk
    · have := h.lt; omega, h.new⟩
  ls := fun w G G' h hs => ⟨h.rep, (M.stay A).ls _ _ _ h.st (fun k hk => hk.imp (hs k) id), fun hk => h.nb (hs _ hk), h.new⟩
  bl := fun w w' G h hk => ⟨Blk.keeps h.rep hk id, (M.stay A).bl _ _ _ h.st hk, h.nb, h.new⟩
  ow := fun w w' G L h hL hW hk => ⟨Blk.keeps h.rep hk (fun e => h.nb (e ▸ hL)), (M.stay A).ow _ _ _ L h.st (Or.inl hL) hW hk, h.nb, h.new⟩
  lt := fun w G h k hk => (M.stay A).lt _ _ h.st k (Or.inl hk)
  sz := fun w G h => (M.stay A).sz _ _ h.st
/-- The block of the store is written, and nothing else that was there. -/
theorem SHas.turned (M : MemL W m St) (h : SHas W m b St S A w G) {S' : Sto} {w' : World} (hr : SRep m S' w' b) (hk : Keeps (· = b) w w') : SHas W m b St S' A w' G ∧ Same G w w' :=
  ⟨⟨hr, (M.stay A).ow _ _ _ b h.st (Or.inr rfl) h.new hk, h.nb, h.new⟩, fun k hg => hk.block k ((M.stay A).lt _ _ h.st k (Or.inl hg)) (fun e => h.nb (e ▸ hg))⟩
theorem SHas.went (M : MemL W m St) (h : SHas W m b St S A w G) {F : Fr} {v : Value} {e : Ending} {w' : World} (hw : SWent m S w b F v e w') : Done (SHas W m b St (S.withF F) A) w G v e w' :=
  ⟨hw.1, (h.turned M hw.2.1 hw.2.2).1, (h.turned M hw.2.1 hw.2.2).2⟩
theorem SHas.quiet (M : MemL W m St) (h : SHas W m b St S A w G) {w' : World} (hb : Below w.heap.size w w') : SHas W m b St S A w' G ∧ Same G w w' :=
  ⟨(SHas.stay M b S A).bl _ _ _ h (Keeps.of_below hb), fun k hg => hb.block k ((M.stay A).lt _ _ h.st k (Or.inl hg))⟩
theorem SHas.store (M : MemL W m St) (h : SHas W m b St S A w G) (hok : A.ok 1000) (z q v : Int) :
    Calls Try.prog 44 #[.pointer (some ⟨m, 0, none⟩), .int .i64 z, .int .i64 q, .int .u64 v] w (Done (SHas W m b St S (A.storeZ z q v)) w G (.int .i64 (A.storeE z q))) :=
  (M.store w _ A h.st hok z q v).mono fun e w' hd => by
    obtain ⟨he, h1, h2⟩ := hd
    refine ⟨he, ⟨?_, h1, h.nb, h.new⟩, fun k hg => h2 k (Or.inl hg)⟩
    have := h.rep
    unfold SRep Blk at this ⊢
    rw [h2 b (Or.inr rfl)]; exact this
theorem SHas.load (M : MemL W m St) (h : SHas W m b St S A w G) (hn : A.n ≤ 1024) (z : Int) :
    Calls Try.prog 21 #[.pointer (some ⟨m, 0, none⟩), .int .i64 z] w (Done (SHas W m b St S A) w G (.tuple #[.agg (lnV (A.hasZ z)), .int .i64 (A.loadE z)])) :=
  (M.load w _ A h.st hn z).mono fun e w' hd => by
    obtain ⟨he, h1, h2⟩ := hd
    refine ⟨he, ⟨?_, h1, h.nb, h.new⟩, fun k hg => h2 k (Or.inl hg)⟩
    have := h.rep
    unfold SRep Blk at this ⊢
    rw [h2 b (Or.inr rfl)]; exact this
theorem SHas.pm (h : SHas W m b St S A w G) : w.cell? ⟨b, 0, none⟩ = some (.pointer (some ⟨m, 0, none⟩)) := Blk.cell h.rep 0 (by decide)
theorem SHas.eqS {S' : Sto} (h : SHas W m b St S A w G) (e : S = S') : SHas W m b St S' A w G := e ▸ h
end

end Go.Proofs.Ytjmgmbigbkllgaa
