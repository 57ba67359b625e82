import Derived.Test.YtinhnnnehhlceaaGreatPkNvm
import Derived.Test.YtinhnnnehhlceaaGreatNClone
import Derived.Test.YtinhnnnehhlceaaGreatPkRef
import Derived.Test.YtinhnnnehhlceaaGreatHeld

/-
  Two memories side by side: the program's and the document's; what each call of either leaves.
-/
namespace Go.Proofs.YtinhnnnehhlceaaGreat
open Go.ChangeShapes Go.WideShapes Go.ChangeAt Go.RowKit Go.Joins
set_option maxRecDepth 10000
set_option linter.unusedVariables false
set_option linter.unusedSimpArgs false

theorem Blk.same {w w' : World} {c N : Nat} {T : TypeId} {f : Nat → Value} (h : Blk w c N T f) (e : w'.heap[c]? = w.heap[c]?) : Blk w' c N T f := by
  obtain ⟨cur, h1, h2⟩ := h
  exact ⟨cur, e.trans h1, h2⟩
theorem RRep.same {w w' : World} {F : Nat → Prop} {b gs cs gl : Nat} {A : Mm} {ads : Nat → Option Nat} {caps : Nat → Nat} (h : RRep w F b A gs cs gl ads caps) (hs : Same F w w') : RRep w' F b A gs cs gl ads caps := by
  obtain ⟨N, f, h1, h2⟩ := h.sb
  refine ⟨(hs b h.fb).trans h.hd, ⟨N, f, h1.same (hs gs h.fs), h2⟩, h.lb.same (hs gl h.fl), fun i hi => ?_, h.d1, h.d2, h.d3, h.ap, h.dj, h.fb, h.fs, h.fl, fun k hk => ?_⟩
  · rcases h.row i hi with h' | ⟨g, N', f', e1, e2, e3⟩
    · exact Or.inl h'
    · exact Or.inr ⟨g, N', f', e1, e2.same (hs g (h.ap i hi g e1).2.2.2), e3⟩
  · have h3 := h.lt k hk
    have h4 := hs k hk
    rcases Nat.lt_or_ge k w'.heap.size with h' | h'
    · exact h'
    · rw [Array.getElem?_eq_none h', Array.getElem?_eq_getElem h3] at h4; simp at h4

def Two (W w : World) (G : Nat → Prop) (b y : Nat) (A A' : Mm) : Prop :=
  ∃ F' gs cz gl ads caps, RRep w F' y A' gs cz gl ads caps ∧ Has W w (fun k => G k ∨ F' k) b A ∧ (∀ k, F' k → W.heap.size ≤ k) ∧ ∀ k, G k → ¬ F' k
def TwoAfter (W w : World) (G : Nat → Prop) (b y : Nat) (A A' : Mm) (v : Value) (e : Ending) (w' : World) : Prop := e = .returned v ∧ Two W w' G b y A A' ∧ Same G w w'

section
variable {W w : World} {G : Nat → Prop} {b y : Nat} {A A' : Mm}
theorem two_left {F' : Nat → Prop} {gs cz gl : Nat} {ads : Nat → Option Nat} {caps : Nat → Nat} {A1 : Mm} {v : Value} {e : Ending} {w' : World} (hr : RRep w F' y A' gs cz gl ads caps) (hF : ∀ k, F' k → W.heap.size ≤ k) (hG : ∀ k, G k → ¬ F' k) (ha : After W w (fun k => G k ∨ F' k) b A1 v e w') : TwoAfter W w G b y A1 A' v e w' := by
  obtain ⟨he, hh, hs⟩ := ha
  exact ⟨he, ⟨F', gs, cz, gl, ads, caps, hr.same fun k hk => hs k (Or.inr hk), hh, hF, hG⟩, fun k hk => hs k (Or.inl hk)⟩
theorem two_right {F' : Nat → Prop} {gs cz gl : Nat} {A1 : Mm} {v : Value} {e : Ending} {w' : World} (hH : Has W w (fun k => G k ∨ F' k) b A) (hF : ∀ k, F' k → W.heap.size ≤ k) (hG : ∀ k, G k → ¬ F' k) (hw : RWent F' w y gs cz gl A1 v e w') : TwoAfter W w G b y A A1 v e w' := by
  obtain ⟨he, F'', ads', caps', r1, r2, r3⟩ := hw
  obtain ⟨F, c, cs, h1, h2, h3, h4⟩ := hH
  refine ⟨he, ⟨F'', gs, cz, gl, ads', caps', r1, ⟨F, c, cs, h1.keeps r2 (fun x hx hf => (h4 x (Or.inr hf)).1 hx), ⟨r2.os.trans h2.os, r2.tape.trans h2.tape, r2.output.trans h2.output, Nat.le_trans h2.size r2.size, fun k hk _ => ?_⟩, h3, fun k hk => ?_⟩, fun k hk => ?_, fun k hk hf => ?_⟩, fun k hk => r2.block k (h4 k (Or.inl hk)).2 (hG k hk)⟩
  · rw [r2.block k (Nat.lt_of_lt_of_le hk h2.size) (fun hf => by have := hF k hf; omega)]; exact h2.block k hk id
  · rcases hk with hk | hk
    · exact ⟨(h4 k (Or.inl hk)).1, Nat.lt_of_lt_of_le (h4 k (Or.inl hk)).2 r2.size⟩
    · refine ⟨?_, r1.lt k hk⟩
      rcases r3 k hk with h | h
      · exact (h4 k (Or.inr h)).1
      · exact fun hf => by have := h1.lt k hf; omega
  · rcases r3 k hk with h | h
    · exact hF k h
    · exact Nat.le_trans h2.size h
  · rcases r3 k hf with h | h
    · exact hG k hk h
    · have := (h4 k (Or.inl hk)).2; omega

theorem Two.storeL (h : Two W w G b y A A') (hok : A.ok 1000) (z q v : Int) : Calls Tryz.prog 74 #[.pointer (some ⟨b, 0, none⟩), .int .i64 z, .int .i64 q, .int .u64 v] w (TwoAfter W w G b y (A.storeZ z q v) A' (.int .i64 (A.storeE z q))) := by
  obtain ⟨F', gs, cz, gl, ads, caps, hr, hh, hF, hG⟩ := h
  exact (hh.storeZ hok z q v).mono fun e w' ha => two_left hr hF hG ha
theorem Two.storeR (h : Two W w G b y A A') (hok : A'.ok 1000) (z q v : Int) : Calls Tryz.prog 78 #[.pointer (some ⟨y, 0, none⟩), .int .i64 z, .int .i64 q, .int .u64 v] w (TwoAfter W w G b y A (A'.storeZ z q v) (.int .i64 (A'.storeE z q))) := by
  obtain ⟨F', gs, cz, gl, ads, caps, hr, hh, hF, hG⟩ := h
  exact (rstore_any hr hok z q v).mono fun e w' hw => two_right hh hF hG hw
theorem Two.flushL (h : Two W w G b y A A') (hok : A.ok 1000) (q z : Int) : Calls Tryz.prog 157 #[.pointer (some ⟨b, 0, none⟩), .int .i64 q, .int .i64 z] w (TwoAfter W w G b y (A.flushZ q z) A' (.int .i64 (A.flushE q z))) := by
  obtain ⟨F', gs, cz, gl, ads, caps, hr, hh, hF, hG⟩ := h
  exact (hh.flushZ hok q z).mono fun e w' ha => two_left hr hF hG ha
theorem Two.flushR (h : Two W w G b y A A') (hok : A'.ok 1000) (q z : Int) : Calls Tryz.prog 139 #[.pointer (some ⟨y, 0, none⟩), .int .i64 q, .int .i64 z] w (TwoAfter W w G b y A (A'.flushZ q z) (.int .i64 (A'.flushE q z))) := by
  obtain ⟨F', gs, cz, gl, ads, caps, hr, hh, hF, hG⟩ := h
  exact (rflush_any hr hok q z).mono fun e w' hw => two_right hh hF hG hw
theorem Two.fenceL (h : Two W w G b y A A') (hok : A.ok 1000) (q : Int) : Calls Tryz.prog 162 #[.pointer (some ⟨b, 0, none⟩), .int .i64 q] w (TwoAfter W w G b y (A.fenceZ q) A' (.int .i64 (A.fenceE q))) := by
  obtain ⟨F', gs, cz, gl, ads, caps, hr, hh, hF, hG⟩ := h
  exact (hh.fenceZ hok q).mono fun e w' ha => two_left hr hF hG ha
theorem Two.fenceR (h : Two W w G b y A A') (hok : A'.ok 1000) (q : Int) : Calls Tryz.prog 141 #[.pointer (some ⟨y, 0, none⟩), .int .i64 q] w (TwoAfter W w G b y A (A'.fenceZ q) (.int .i64 (A'.fenceE q))) := by
  obtain ⟨F', gs, cz, gl, ads, caps, hr, hh, hF, hG⟩ := h
  exact (rfence_any hr hok q).mono fun e w' hw => two_right hh hF hG hw
theorem Two.fuseR (h : Two W w G b y A A') (z : Int) : Calls Tryz.prog 18 #[.pointer (some ⟨y, 0, none⟩), .int .i64 z] w (TwoAfter W w G b y A (A'.fused z) (.tuple #[])) := by
  obtain ⟨F', gs, cz, gl, ads, caps, hr, hh, hF, hG⟩ := h
  exact (rfuse_any hr z).mono fun e w' hw => two_right hh hF hG hw
theorem Two.loadL (h : Two W w G b y A A') (hn : A.n ≤ 1024) (z : Int) : Calls Tryz.prog 45 #[.pointer (some ⟨b, 0, none⟩), .int .i64 z] w (TwoAfter W w G b y A A' (.tuple #[.agg (lnV (A.hasZ z)), .int .i64 (A.loadE z)])) := by
  obtain ⟨F', gs, cz, gl, ads, caps, hr, hh, hF, hG⟩ := h
  exact (hh.loadZ hn z).mono fun e w' ha => two_left hr hF hG ha
theorem Two.loadR (h : Two W w G b y A A') (hok : A'.ok 1000) (z : Int) : Calls Tryz.prog 64 #[.pointer (some ⟨y, 0, none⟩), .int .i64 z] w (TwoAfter W w G b y A A' (.tuple #[.agg (lnV (A'.hasZ z)), .int .i64 (A'.loadE z)])) := by
  obtain ⟨F', gs, cz, gl, ads, caps, hr, hh, hF, hG⟩ := h
  exact (rload_any hr hok z).mono fun e w' hw => two_right hh hF hG ⟨hw.1, F', ads, caps, hr.keeps hw.2 fun _ _ => id, hw.2.mono fun _ _ f => f.elim, Grew.refl _ _⟩
theorem Two.fuseL (h : Two W w G b y A A') (z : Int) : Calls Tryz.prog 17 #[.pointer (some ⟨b, 0, none⟩), .int .i64 z] w (TwoAfter W w G b y (A.fused z) A' (.tuple #[])) := by
  obtain ⟨F', gs, cz, gl, ads, caps, hr, hh, hF, hG⟩ := h
  exact (hh.fuse z).mono fun e w' ha => two_left hr hF hG ha
theorem Two.crashL (h : Two W w G b y A A') (hok : A.ok 1000) (a : Option Addr) (keep : List Int) (cap : Nat) (hk : ∀ z ∈ keep, In64 z) (hl : keep.length ≤ 9223372036854775807) (hi : IntsAt W a keep) :
    Calls Tryz.prog 43 #[.pointer (some ⟨b, 0, none⟩), .slice a keep.length cap] w (TwoAfter W w G b y (A.crash keep) A' (.tuple #[])) := by
  obtain ⟨F', gs, cz, gl, ads, caps, hr, hh, hF, hG⟩ := h
  exact (hh.crash_arg hok a keep cap hk hl hi).mono fun e w' ha => two_left hr hF hG ha
theorem Two.has (h : Two W w G b y A A') : Has W w G b A := by
  obtain ⟨F', gs, cz, gl, ads, caps, hr, hh, hF, hG⟩ := h
  exact hh.less fun k hk => Or.inl hk
theorem Two.keeps (h : Two W w G b y A A') : Keeps (fun _ => False) W w := h.has.keeps
theorem Two.lt (h : Two W w G b y A A') : ∀ k, G k → k < w.heap.size := h.has.lt
theorem Two.drew (h : Two W w G b y A A') : Two W w.drew G b y A A' := by
  obtain ⟨F', gs, cz, gl, ads, caps, hr, hh, hF, hG⟩ := h
  exact ⟨F', gs, cz, gl, ads, caps, hr.drew, hh.drew, hF, hG⟩
theorem Two.alloc (h : Two W w G b y A A') (o : Obj) : Two W (w.alloc o) (fun k => G k ∨ k = w.heap.size) b y A A' := by
  obtain ⟨F', gs, cz, gl, ads, caps, hr, hh, hF, hG⟩ := h
  refine ⟨F', gs, cz, gl, ads, caps, hr.alloc o, (hh.alloc o).less fun k hk => ?_, hF, fun k hk => ?_⟩
  · rcases hk with (hk | hk) | hk
    · exact Or.inl (Or.inl hk)
    · exact Or.inr hk
    · exact Or.inl (Or.inr hk)
  · rcases hk with hk | rfl
    · exact hG k hk
    · exact fun hf => by have := hr.lt _ hf; omega
theorem Two.less {G' : Nat → Prop} (h : Two W w G b y A A') (hs : ∀ k, G' k → G k) : Two W w G' b y A A' := by
  obtain ⟨F', gs, cz, gl, ads, caps, hr, hh, hF, hG⟩ := h
  exact ⟨F', gs, cz, gl, ads, caps, hr, hh.less fun k hk => hk.imp (hs k) id, hF, fun k hk => hG k (hs k hk)⟩
/-- A block of the call's own is written. -/
theorem Two.own {w' : World} (h : Two W w G b y A A') {L : Nat} (hL : G L) (hW : W.heap.size ≤ L) (hk : Keeps (· = L) w w') : Two W w' G b y A A' := by
  obtain ⟨F', gs, cz, gl, ads, caps, hr, hh, hF, hG⟩ := h
  exact ⟨F', gs, cz, gl, ads, caps, hr.keeps hk fun x hx e => hG L hL (e ▸ hx), hh.own (Or.inl hL) hW hk, hF, hG⟩
/-- Both just made. -/
theorem Two.made {n : Nat} {s : Nat → Nat → Int} {gs cz gl : Nat} {F' : Nat → Prop} {ads : Nat → Option Nat} {caps : Nat → Nat} {w' : World} (hh : Has W w G b A) (hr : RRep w' F' y (Mm.new n s) gs cz gl ads caps) (hk : Keeps (fun _ => False) w w') (hF : ∀ k, F' k → w.heap.size ≤ k) : Two W w' G b y A (Mm.new n s) := by
  obtain ⟨F, c, cs, h1, h2, h3, h4⟩ := hh
  refine ⟨F', gs, cz, gl, ads, caps, hr, ⟨F, c, cs, h1.keeps hk fun _ _ => id, h2.trans' hk, h3, fun k hk' => ?_⟩, fun k hk' => Nat.le_trans h2.size (hF k hk'), fun k hk' hf => ?_⟩
  · rcases hk' with hk' | hk'
    · exact ⟨(h4 k hk').1, Nat.lt_of_lt_of_le (h4 k hk').2 hk.size⟩
    · exact ⟨fun hf => by have := h1.lt k hf; have := hF k hk'; omega, hr.lt k hk'⟩
  · have := (h4 k hk').2; have := hF k hf; omega
/-- A clone takes its place; what the old one does then leaves the two as they were. -/
def TwoCloned (W w : World) (G : Nat → Prop) (b y : Nat) (A A' : Mm) (e : Ending) (w' : World) : Prop :=
  ∃ b2 G2, e = .returned (.pointer (some ⟨b2, 0, none⟩)) ∧ Has W w' G2 b A ∧ Same G w w' ∧ (∀ k, G k → G2 k) ∧ ∀ w2 B, Has W w2 G2 b B → Same G2 w' w2 → Two W w2 G b2 y A A'
theorem Rep.same {w w' : World} {F : Nat → Prop} {b c : Nat} {A : Mm} {cs : Nat → Cel} (h : Rep w F b A c cs) (hs : Same F w w') : Rep w' F b A c cs := by
  refine ⟨?_, h.bl.same (hs c h.fc), h.ln, fun i hi => ?_, h.bc, h.ap, h.dj, h.fb, h.fc, fun k hk => ?_⟩
  · obtain ⟨K, hd⟩ := h.hd; exact ⟨K, (hs b h.fb).trans hd⟩
  · rcases h.row i hi with h' | ⟨g, off, cur, e1, e2, e3⟩
    · exact Or.inl h'
    · exact Or.inr ⟨g, off, cur, e1, (hs g (h.ap i hi g (by simp [Cel.blk, e1])).2.2).trans e2, e3⟩
  · have h3 := h.lt k hk
    have h4 := hs k hk
    rcases Nat.lt_or_ge k w'.heap.size with h' | h'
    · exact h'
    · rw [Array.getElem?_eq_none h', Array.getElem?_eq_getElem h3] at h4; simp at h4
theorem Two.clone (h : Two W w G b y A A') (hok : A.ok 1000) : Calls Tryz.prog 29 #[.pointer (some ⟨b, 0, none⟩)] w (TwoCloned W w G b y A A') := by
  obtain ⟨F', gs, cz, gl, ads, caps, hr, ⟨F, c, cs, h1, h2, h3, h4⟩, hF, hG⟩ := h
  refine (clone_any h1 hok).mono ?_
  rintro e w' ⟨b2, c2, F2, cs2, he, r1, r2, r3⟩
  refine ⟨b2, fun k => (G k ∨ F' k) ∨ F2 k, he, ⟨F, c, cs, h1.keeps r2 fun _ _ => id, h2.trans' r2, h3, fun k hk => ?_⟩, fun k hk => r2.block k (h4 k (Or.inl hk)).2 id, fun k hk => Or.inl (Or.inl hk), fun w2 B hB hs => ?_⟩
  · rcases hk with hk | hk
    · exact ⟨(h4 k hk).1, Nat.lt_of_lt_of_le (h4 k hk).2 r2.size⟩
    · exact ⟨fun hf => by have := h1.lt k hf; have := r3 k hk; omega, r1.lt k hk⟩
  · refine ⟨F', gs, cz, gl, ads, caps, (hr.keeps r2 fun _ _ => id).same fun k hk => hs k (Or.inl (Or.inr hk)), ⟨F2, c2, cs2, r1.same fun k hk => hs k (Or.inr hk), hB.keeps, fun k hk => Nat.le_trans h2.size (r3 k hk), fun k hk => ⟨fun hf => ?_, hB.lt k (Or.inl hk)⟩⟩, hF, hG⟩
    have := r3 k hf
    have := (h4 k hk).2
    omega
end

end Go.Proofs.YtinhnnnehhlceaaGreat


/-
  Two memories side by side, the program's and the document's, beside blocks of the call's own; the document's Store and Load.
-/
namespace Go.Proofs.YtinhnnnehhlceaaGreat
open Go.ChangeShapes Go.WideShapes Go.ChangeAt Go.RowKit Go.Joins
set_option maxRecDepth 10000
set_option linter.unusedVariables false
set_option linter.unusedSimpArgs false

theorem Two.stay (W : World) (b y : Nat) (A A' : Mm) : Stay W (fun w G => Two W w G b y A A') where
  al := fun w G o h => h.alloc o
  ls := fun w G G' h hs => h.less hs
  bl := fun w w' G h hk => by
    obtain ⟨F', gs, cz, gl, ads, caps, hr, hh, hF, hG⟩ := h
    exact ⟨F', gs, cz, gl, ads, caps, hr.keeps hk fun _ _ => id, (Has.stay W b A).bl _ _ _ hh hk, hF, hG⟩
  ow := fun w w' G L h hL hW hk => h.own hL hW hk
  lt := fun w G h => h.lt
  sz := fun w G h => h.keeps

section
variable {W w : World} {G : Nat → Prop} {b y : Nat} {A A' : Mm}
theorem Two.rstore (h : Two W w G b y A A') (hok : A'.ok 1000) (z q v : Int) (k p : Nat) (ez : z = (k : Int)) (eq : q = (p : Int)) (hk : k < A'.n) (hp : p < 8) :
    Calls Tryz.prog 78 #[.pointer (some ⟨y, 0, none⟩), .int .i64 z, .int .i64 q, .int .u64 v] w (TwoAfter W w G b y A (A'.store k p v) (.int .i64 A'.err)) := by
  have h1 := h.storeR hok z q v
  have hz : A'.isZ z ∧ is8 q := by subst ez eq; exact ⟨⟨by omega, by omega⟩, by omega, by omega⟩
  rw [show A'.storeZ z q v = A'.store k p v by unfold Mm.storeZ; rw [if_pos hz, ez, eq]; simp, show A'.storeE z q = A'.err by unfold Mm.storeE; rw [if_pos hz]] at h1
  exact h1
theorem Two.rload_on (h : Two W w G b y A A') (hok : A'.ok 1000) (z : Int) (k : Nat) (ez : z = (k : Int)) (hk : k < A'.n) (hon : A'.on = true) :
    Calls Tryz.prog 64 #[.pointer (some ⟨y, 0, none⟩), .int .i64 z] w (TwoAfter W w G b y A A' (.tuple #[.agg (lnV (A'.l k).has), .int .i64 0])) := by
  have h1 := h.loadR hok z
  have hz : A'.isZ z := by subst ez; exact ⟨by omega, by omega⟩
  rw [show A'.hasZ z = (A'.l k).has by unfold Mm.hasZ; rw [if_pos ⟨hz, hon⟩, ez]; simp, show A'.loadE z = 0 by unfold Mm.loadE; rw [if_pos hz, if_pos hon]] at h1
  exact h1
theorem Two.rload_off (h : Two W w G b y A A') (hok : A'.ok 1000) (z : Int) (k : Nat) (ez : z = (k : Int)) (hk : k < A'.n) (hon : A'.on = false) :
    Calls Tryz.prog 64 #[.pointer (some ⟨y, 0, none⟩), .int .i64 z] w (TwoAfter W w G b y A A' (.tuple #[.agg (lnV fun _ => 0), .int .i64 4])) := by
  have h1 := h.loadR hok z
  have hz : A'.isZ z := by subst ez; exact ⟨by omega, by omega⟩
  have ho : ¬ A'.on = true := by simp [hon]
  rw [show A'.hasZ z = (fun _ => 0) by unfold Mm.hasZ; rw [if_neg (fun h => ho h.2)], show A'.loadE z = 4 by unfold Mm.loadE; rw [if_pos hz, if_neg ho]] at h1
  exact h1
end

end Go.Proofs.YtinhnnnehhlceaaGreat
