
/-
  Frames that a call has made, beside blocks of the call's own: what each of their calls leaves; the statements' kind; the document's examples.
-/
import Derived.Test.YtjmgmbigbkllgaaFMake
namespace Go.Proofs.Ytjmgmbigbkllgaa
open Go.ChangeShapes Go.WideShapes Go.ChangeAt Go.RowKit Go.Joins
set_option maxRecDepth 10000
set_option linter.unusedVariables false
set_option linter.unusedSimpArgs false

def FSame (G : Nat → Prop) (w w' : World) : Prop := ∀ k, G k → w'.heap[k]? = w.heap[k]?
structure FHas (W w : World) (G : Nat → Prop) (b : Nat) (A : Fr) : Prop where
  rep : FRep w b A
  ok : A.ok
  keeps : Keeps (fun _ => False) W w
  new : W.heap.size ≤ b
  gs : ∀ k, G k → k ≠ b ∧ k < w.heap.size
def FAfter (W w : World) (G : Nat → Prop) (b : Nat) (A' : Fr) (v : Value) (e : Ending) (w' : World) : Prop := e = .returned v ∧ FHas W w' G b A' ∧ FSame G w w'

section
variable {W w : World} {G : Nat → Prop} {b : Nat} {A : Fr}
theorem fwent_has (h : FHas W w G b A) {A' : Fr} (hok : A'.ok) {v : Value} {e : Ending} {w' : World} (hw : FWent w b A' v e w') : FAfter W w G b A' v e w' := by
  obtain ⟨he, h1, h2⟩ := hw
  refine ⟨he, ⟨h1, hok, ⟨h2.os.trans h.keeps.os, h2.tape.trans h.keeps.tape, h2.output.trans h.keeps.output, Nat.le_trans h.keeps.size h2.size, fun k hk _ => ?_⟩, h.new, fun k hk => ⟨(h.gs k hk).1, Nat.lt_of_lt_of_le (h.gs k hk).2 h2.size⟩⟩, fun k hk => h2.block k (h.gs k hk).2 (h.gs k hk).1⟩
  rw [h2.block k (Nat.lt_of_lt_of_le hk h.keeps.size) (fun e => by have := h.new; omega)]; exact h.keeps.block k hk id
theorem FHas.alloc (h : FHas W w G b A) (o : Obj) : FHas W (w.alloc o) (fun k => G k ∨ k = w.heap.size) b A :=
  ⟨h.rep.keeps (F := fun _ => False) ((Keeps.refl _ _).alloc o) id, h.ok, h.keeps.alloc o, h.new, fun k hk => by
    rcases hk with hk | rfl
    · exact ⟨(h.gs k hk).1, by have := (h.gs k hk).2; simp; omega⟩
    · exact ⟨by have := h.rep.lt; omega, by simp⟩⟩
theorem FHas.drew (h : FHas W w G b A) : FHas W w.drew G b A := ⟨h.rep, h.ok, h.keeps.drew, h.new, h.gs⟩
theorem FHas.less {G' : Nat → Prop} (h : FHas W w G b A) (hG : ∀ k, G' k → G k) : FHas W w G' b A := ⟨h.rep, h.ok, h.keeps, h.new, fun k hk => h.gs k (hG k hk)⟩
theorem FHas.own {w' : World} (h : FHas W w G b A) {L : Nat} (hL : G L) (hW : W.heap.size ≤ L) (hk : Keeps (· = L) w w') : FHas W w' G b A :=
  ⟨h.rep.keeps hk (fun e => (h.gs L hL).1 e.symm), h.ok, ⟨hk.os.trans h.keeps.os, hk.tape.trans h.keeps.tape, hk.output.trans h.keeps.output, Nat.le_trans h.keeps.size hk.size, fun k hk' _ => by
    rw [hk.block k (Nat.lt_of_lt_of_le hk' h.keeps.size) (by omega)]; exact h.keeps.block k hk' id⟩, h.new, fun k hk' => ⟨(h.gs k hk').1, Nat.lt_of_lt_of_le (h.gs k hk').2 hk.size⟩⟩
/-- Another call, that makes or turns blocks beside all of these. -/
theorem FHas.beside {w' : World} {F : Nat → Prop} (h : FHas W w G b A) (hk : Keeps F w w') (hF : ∀ k, F k → W.heap.size ≤ k ∧ k ≠ b) : FHas W w' G b A :=
  ⟨h.rep.keeps hk (fun e => (hF b e).2 rfl), h.ok, ⟨hk.os.trans h.keeps.os, hk.tape.trans h.keeps.tape, hk.output.trans h.keeps.output, Nat.le_trans h.keeps.size hk.size, fun k hk' _ => by
    rw [hk.block k (Nat.lt_of_lt_of_le hk' h.keeps.size) (fun e => by have := (hF k e).1; omega)]; exact h.keeps.block k hk' id⟩, h.new, fun k hk' => ⟨(h.gs k hk').1, Nat.lt_of_lt_of_le (h.gs k hk').2 hk.size⟩⟩

theorem FHas.state (h : FHas W w G b A) (z : Int) : Calls Try.prog 60 #[.pointer (some ⟨b, 0, none⟩), .int .i64 z] w fun e w' => e = .returned (.int .i64 (A.st z)) ∧ w' = w := state_any h.rep h.ok z
theorem FHas.left (h : FHas W w G b A) : Calls Try.prog 45 #[.pointer (some ⟨b, 0, none⟩)] w fun e w' => e = .returned (.int .i64 (A.left : Int)) ∧ w' = w := left_any h.rep h.ok
theorem FHas.take (h : FHas W w G b A) (z : Int) : Calls Try.prog 54 #[.pointer (some ⟨b, 0, none⟩), .int .i64 z] w (FAfter W w G b (A.turnA z 0 1) (.int .i64 (A.turnE z 0))) :=
  (take_any h.rep h.ok z).mono fun e w' hw => fwent_has h (turn_ok h.ok _ _ (Or.inr (Or.inl rfl))) hw
theorem FHas.free (h : FHas W w G b A) (z : Int) : Calls Try.prog 48 #[.pointer (some ⟨b, 0, none⟩), .int .i64 z] w (FAfter W w G b (A.turnA z 1 0) (.int .i64 (A.turnE z 1))) :=
  (free_any h.rep h.ok z).mono fun e w' hw => fwent_has h (turn_ok h.ok _ _ (Or.inl rfl)) hw
theorem FHas.allocate (h : FHas W w G b A) : Calls Try.prog 50 #[.pointer (some ⟨b, 0, none⟩)] w (FAfter W w G b A.allocA (.tuple #[.int .i64 A.allocV, .int .i64 A.allocE])) :=
  (alloc_any h.rep h.ok).mono fun e w' hw => fwent_has h (alloc_ok h.ok) hw
end
theorem fmade_has {w : World} {A : Fr} {e : Ending} {w' : World} (W : World) (hW : Keeps (fun _ => False) W w) (hok : A.ok) (h : FMade w A e w') (G : Nat → Prop) (hG : ∀ k, G k → k < w.heap.size) :
    ∃ b, e = .returned (.tuple #[.pointer (some ⟨b, 0, none⟩), .int .i64 0]) ∧ FHas W w' G b A ∧ FSame G w w' := by
  obtain ⟨b, h1, h2, h3, h4⟩ := h
  exact ⟨b, h1, ⟨h2, hok, hW.trans' h3, Nat.le_trans hW.size h4, fun k hk => ⟨by have := hG k hk; omega, Nat.lt_of_lt_of_le (hG k hk) h3.size⟩⟩, fun k hk => h3.block k (hG k hk) id⟩

/-! ### The statements' kind -/
def FIn64 (z : Int) : Prop := -9223372036854775808 ≤ z ∧ z ≤ 9223372036854775807
theorem fin64_wf {z : Int} (h : (Lit.int .i64 z).wf = true) : FIn64 z := by
  simp [Lit.wf, IntKind.min, IntKind.max, IntKind.signed, IntKind.bits] at h; exact ⟨by omega, by omega⟩
def fkN (z : Int) (n : Nat) : Nat := ((if z < 0 then -(z + 1) else z) % (n : Int)).toNat
theorem fkN_lt (z : Int) (n : Nat) (hn : 0 < n) : fkN z n < n := by
  unfold fkN
  have h1 := Int.emod_nonneg (if z < 0 then -(z + 1) else z) (show (n : Int) ≠ 0 by omega)
  have h2 := Int.emod_lt_of_pos (if z < 0 then -(z + 1) else z) (show (0 : Int) < (n : Int) by omega)
  omega
theorem ftmod_neg (z : Int) (hz : z < 0) (n : Int) (hn : 0 < n) : -((z + 1).tmod n) = (((-(z + 1)) % n).toNat : Int) := by
  rw [← Int.neg_tmod, Int.tmod_eq_emod_of_nonneg (by omega)]
  have := Int.emod_nonneg (-(z + 1)) (show n ≠ 0 by omega)
  omega
theorem ftmod_pos (z : Int) (hz : 0 ≤ z) (n : Int) (hn : 0 < n) : z.tmod n = ((z % n).toNat : Int) := by
  rw [Int.tmod_eq_emod_of_nonneg hz]
  have := Int.emod_nonneg z (show n ≠ 0 by omega)
  omega
theorem femod_toNat (z : Int) (n : Int) (hn : 0 < n) : z % n = ((z % n).toNat : Int) := by
  have := Int.emod_nonneg z (show n ≠ 0 by omega)
  omega

/-! ### The document's examples -/
def fs0 : Fr := Fr.new 2 5
def fs1 : Fr := fs0.allocA
def fs2 : Fr := fs1.allocA
def fs3 : Fr := fs2.turnA 2 1 2
def fs4 : Fr := fs3.allocA
def fs5 : Fr := fs4.allocA
theorem fa0 : fs0.allocV = 2 := by decide +kernel
theorem fa1 : fs1.allocV = 3 := by decide +kernel
theorem fa2 : fs2.turnE 2 1 = 0 := by decide +kernel
theorem fa3 : fs3.allocV = 4 := by decide +kernel
theorem fa4 : fs4.allocE = 10 := by decide +kernel
end Go.Proofs.Ytjmgmbigbkllgaa
