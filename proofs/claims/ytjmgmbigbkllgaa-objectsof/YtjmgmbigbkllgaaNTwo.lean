
/-
  Two memories side by side: the program's and the document's; what each call of either leaves.
-/
import Derived.Test.YtjmgmbigbkllgaaPkNvm
import Derived.Test.YtjmgmbigbkllgaaPkRef
namespace Go.Proofs.Ytjmgmbigbkllgaa
open Go.ChangeShapes Go.WideShapes Go.ChangeAt Go.RowKit Go.Joins
set_option maxRecDepth 10000
set_option linter.unusedVariables false
set_option linter.unusedSimpArgs false

theorem Blk.same {w w' : World} {c N : Nat} {T : TypeId} {f : Nat → Value} (h : Blk w c N T f) (e : w'.heap[c]? = w.heap[c]?) : Blk w' c N T f := by
  obtain ⟨cur, h1, h2⟩ := h
  exact ⟨cur, e.trans h1, h2⟩
theorem RRep.same {w w' : World} {F : Nat → Prop} {b gs cs gl : Nat} {A : Mm} {ads : Nat → Option Nat} {caps : Nat → Nat} (h : RRep w F b A gs cs gl ads caps) (hs : Same F w w') : RRep w' F b A gs cs gl ads caps := by
  obtain ⟨N, f, h1, h2⟩ := h.sb
  refine ⟨(hs b h.fb).trans h.hd, ⟨N, f, h1.same (hs gs h.fs), h2⟩, h.lb.same (hs gl h.fl), fun i hi => ?_, h.d1, h.d2, h.d3, h.ap, h.dj, h.fb, h.fs, h.fl, fun k hk => ?_⟩
  · rcases h.row i hi with h' | ⟨g, N', f', e1, e2, e3⟩
    · exact Or.inl h'
    · exact Or.inr ⟨g, N', f', e1, e2.same (hs g (h.ap i hi g e1).2.2.2), e3⟩
  · have h3 := h.lt k hk
    have h4 := hs k hk
    rcases Nat.lt_or_ge k w'.heap.size with h' | h'
    · exact h'
    · rw [Array.getElem?_eq_none h', Array.getElem?_eq_getElem h3] at h4; simp at h4

def Two (W w : World) (G : Nat → Prop) (b y : Nat) (A A' : Mm) : Prop :=
  ∃ F' gs cz gl ads caps, RRep w F' y A' gs cz gl ads caps ∧ Has W w (fun k => G k ∨ F' k) b A ∧ (∀ k, F' k → W.heap.size ≤ k) ∧ ∀ k, G k → ¬ F' k
def TwoAfter (W w : World) (G : Nat → Prop) (b y : Nat) (A A' : Mm) (v : Value) (e : Ending) (w' : World) : Prop := e = .returned v ∧ Two W w' G b y A A' ∧ Same G w w'

section
variable {W w : World} {G : Nat → Prop} {b y : Nat} {A A' : Mm}
theorem two_left {F' : Nat → Prop} {gs cz gl : Nat} {ads : Nat → Option Nat} {caps : Nat → Nat} {A1 : Mm} {v : Value} {e : Ending} {w' : World} (hr : RRep w F' y A' gs cz gl ads caps) (hF : ∀ k, F' k → W.heap.size ≤ k) (hG : ∀ k, G k → ¬ F' k) (ha : After W w (fun k => G k ∨ F' k) b A1 v e w') : TwoAfter W w G b y A1 A' v e w' := by
  obtain ⟨he, hh, hs⟩ := ha
  exact ⟨he, ⟨F', gs, cz, gl, ads, caps, hr.same fun k hk => hs k (Or.inr hk), hh, hF, hG⟩, fun k hk => hs k (Or.inl hk)⟩
theorem two_right {F' : Nat → Prop} {gs cz gl : Nat} {A1 : Mm} {v : Value} {e : Ending} {w' : World} (hH : Has W w (fun k => G k ∨ F' k) b A) (hF : ∀ k, F' k → W.heap.size ≤ k) (hG : ∀ k, G k → ¬ F' k) (hw : RWent F' w y gs cz gl A1 v e w') : TwoAfter W w G b y A A1 v e w' := by
  obtain ⟨he, F'', ads', caps', r1, r2, r3⟩ := hw
  obtain ⟨F, c, cs, h1, h2, h3, h4⟩ := hH
  refine ⟨he, ⟨F'', gs, cz, gl, ads', caps', r1, ⟨F, c, cs, h1.keeps r2 (fun x hx hf => (h4 x (Or.inr hf)).1 hx), ⟨r2.os.trans h2.os, r2.tape.trans h2.tape, r2.output.trans h2.output, Nat.le_trans h2.size r2.size, fun k hk _ => ?_⟩, h3, fun k hk => ?_⟩, fun k hk => ?_, fun k hk hf => ?_⟩, fun k hk => r2.block k (h4 k (Or.inl hk)).2 (hG k hk)⟩
  · rw [r2.block k (Nat.lt_of_lt_of_le hk h2.size) (fun hf => by have := hF k hf; omega)]; exact h2.block k hk id
  · rcases hk with hk | hk
    · exact ⟨(h4 k (Or.inl hk)).1, Nat.lt_of_lt_of_le (h4 k (Or.inl hk)).2 r2.size⟩
    · refine ⟨?_, r1.lt k hk⟩
      rcases r3 k hk with h | h
      · exact (h4 k (Or.inr h)).1
      · exact fun hf => by have := h1.lt k hf; omega
  · rcases r3 k hk with h | h
    · exact hF k h
    · exact Nat.le_trans h2.size h
  · rcases r3 k hf with h | h
    · exact hG k hk h
    · have := (h4 k (Or.inl hk)).2; omega

theorem Two.storeL (h : Two W w G b y A A') (hok : A.ok 1000) (z q v : Int) : Calls Try.prog 44 #[.pointer (some ⟨b, 0, none⟩), .int .i64 z, .int .i64 q, .int .u64 v] w (TwoAfter W w G b y (A.storeZ z q v) A' (.int .i64 (A.storeE z q))) := by
  obtain ⟨F', gs, cz, gl, ads, caps, hr, hh, hF, hG⟩ := h
  exact (hh.storeZ hok z q v).mono fun e w' ha => two_left hr hF hG ha
theorem Two.loadL (h : Two W w G b y A A') (hn : A.n ≤ 1024) (z : Int) : Calls Try.prog 21 #[.pointer (some ⟨b, 0, none⟩), .int .i64 z] w (TwoAfter W w G b y A A' (.tuple #[.agg (lnV (A.hasZ z)), .int .i64 (A.loadE z)])) := by
  obtain ⟨F', gs, cz, gl, ads, caps, hr, hh, hF, hG⟩ := h
  exact (hh.loadZ hn z).mono fun e w' ha => two_left hr hF hG ha
theorem Two.has (h : Two W w G b y A A') : Has W w G b A := by
  obtain ⟨F', gs, cz, gl, ads, caps, hr, hh, hF, hG⟩ := h
  exact hh.less fun k hk => Or.inl hk
theorem Two.keeps (h : Two W w G b y A A') : Keeps (fun _ => False) W w := h.has.keeps
theorem Two.lt (h : Two W w G b y A A') : ∀ k, G k → k < w.heap.size := h.has.lt
theorem Two.drew (h : Two W w G b y A A') : Two W w.drew G b y A A' := by
  obtain ⟨F', gs, cz, gl, ads, caps, hr, hh, hF, hG⟩ := h
  exact ⟨F', gs, cz, gl, ads, caps, hr.drew, hh.drew, hF, hG⟩
theorem Two.alloc (h : Two W w G b y A A') (o : Obj) : Two W (w.alloc o) (fun k => G k ∨ k = w.heap.size) b y A A' := by
  obtain ⟨F', gs, cz, gl, ads, caps, hr, hh, hF, hG⟩ := h
  refine ⟨F', gs, cz, gl, ads, caps, hr.alloc o, (hh.alloc o).less fun k hk => ?_, hF, fun k hk => ?_⟩
  · rcases hk with (hk | hk) | hk
    · exact Or.inl (Or.inl hk)
    · exact Or.inr hk
    · exact Or.inl (Or.inr hk)
  · rcases hk with hk | rfl
    · exact hG k hk
    · exact fun hf => by have := hr.lt _ hf; omega
theorem Two.less {G' : Nat → Prop} (h : Two W w G b y A A') (hs : ∀ k, G' k → G k) : Two W w G' b y A A' := by
  obtain ⟨F', gs, cz, gl, ads, caps, hr, hh, hF, hG⟩ := h
  exact ⟨F', gs, cz, gl, ads, caps, hr, hh.less fun k hk => hk.imp (hs k) id, hF, fun k hk => hG k (hs k hk)⟩
/-- A block of the call's own is written. -/
theorem Two.own {w' : World} (h : Two W w G b y A A') {L : Nat} (hL : G L) (hW : W.heap.size ≤ L) (hk : Keeps (· = L) w w') : Two W w' G b y A A' := by
  obtain ⟨F', gs, cz, gl, ads, caps, hr, hh, hF, hG⟩ := h
  exact ⟨F', gs, cz, gl, ads, caps, hr.keeps hk fun x hx e => hG L hL (e ▸ hx), hh.own (Or.inl hL) hW hk, hF, hG⟩
/-- Both just made. -/
theorem Two.made {n : Nat} {s : Nat → Nat → Int} {gs cz gl : Nat} {F' : Nat → Prop} {ads : Nat → Option Nat} {caps : Nat → Nat} {w' : World} (hh : Has W w G b A) (hr : RRep w' F' y (Mm.new n s) gs cz gl ads caps) (hk : Keeps (fun _ => False) w w') (hF : ∀ k, F' k → w.heap.size ≤ k) : Two W w' G b y A (Mm.new n s) := by
  obtain ⟨F, c, cs, h1, h2, h3, h4⟩ := hh
  refine ⟨F', gs, cz, gl, ads, caps, hr, ⟨F, c, cs, h1.keeps hk fun _ _ => id, h2.trans' hk, h3, fun k hk' => ?_⟩, fun k hk' => Nat.le_trans h2.size (hF k hk'), fun k hk' hf => ?_⟩
  · rcases hk' with hk' | hk'
    · exact ⟨(h4 k hk').1, Nat.lt_of_lt_of_le (h4 k hk').2 hk.size⟩
    · exact ⟨fun hf => by have := h1.lt k hf; have := hF k hk'; omega, hr.lt k hk'⟩
  · have := (h4 k hk').2; have := hF k hf; omega
/-- A clone takes its place; what the old one does then leaves the two as they were. -/
def TwoCloned (W w : World) (G : Nat → Prop) (b y : Nat) (A A' : Mm) (e : Ending) (w' : World) : Prop :=
  ∃ b2 G2, e = .returned (.pointer (some ⟨b2, 0, none⟩)) ∧ Has W w' G2 b A ∧ Same G w w' ∧ (∀ k, G k → G2 k) ∧ ∀ w2 B, Has W w2 G2 b B → Same G2 w' w2 → Two W w2 G b2 y A A'
theorem Rep.same {w w' : World} {F : Nat → Prop} {b c : Nat} {A : Mm} {cs : Nat → Cel} (h : Rep w F b A c cs) (hs : Same F w w') : Rep w' F b A c cs := by
  refine ⟨?_, h.bl.same (hs c h.fc), h.ln, fun i hi => ?_, h.bc, h.ap, h.dj, h.fb, h.fc, fun k hk => ?_⟩
  · obtain ⟨K, hd⟩ := h.hd; exact ⟨K, (hs b h.fb).trans hd⟩
  · rcases h.row i hi with h' | ⟨g, off, cur, e1, e2, e3⟩
    · exact Or.inl h'
    · exact Or.inr ⟨g, off, cur, e1, (hs g (h.ap i hi g (by simp [Cel.blk, e1])).2.2).trans e2, e3⟩
  · have h3 := h.lt k hk
    have h4 := hs k hk
    rcases Nat.lt_or_ge k w'.heap.size with h' | h'
    · exact h'
    · rw [Array.getElem?_eq_none h', Array.getElem?_eq_getElem h3] at h4; simp at h4
end

end Go.Proofs.Ytjmgmbigbkllgaa
