
/-
  A worker's Left; its steps that flush an object's line, and that fence.
-/
import Derived.Test.YtinhnnnehhlceaaZHas
namespace Go.Proofs.Ytinhnnnehhlceaa
open Go.ChangeShapes Go.WideShapes Go.ChangeAt Go.RowKit Go.Joins
set_option maxRecDepth 10000
set_option linter.unusedVariables false
set_option linter.unusedSimpArgs false

theorem wleft_any {W w : World} {m b x : Nat} {St : Mm → World → (Nat → Prop) → Prop} {S : Sto} {A : Mm} {K : Wk} {sl : Value} {G : Nat → Prop} (h : WH W m b x St S A K sl w G) :
    Calls Try.prog 14 #[.pointer (some ⟨x, 0, none⟩)] w fun e w' => e = .returned (.int .i64 (K.l.length : Int)) ∧ w' = w := by
  obtain ⟨a, c, hv⟩ := h.row.len
  have cs := h.rep.cs
  rw [hv] at cs
  clear h hv
  generalize K.l.length = n at *
  go_enter Try.func14, Try.ntmps14
  go_wp2_with fail
  go_ret
  exact ⟨rfl, rfl⟩
theorem wflush_any {W w : World} {m b x : Nat} {St : Mm → World → (Nat → Prop) → Prop} {S : Sto} {A : Mm} {K : Wk} {sl : Value} {G : Nat → Prop} (M : MemX W m St) (h : WH W m b x St S A K sl w G) (hok : A.ok 1000) (z : Int) :
    Calls Try.prog 50 #[.pointer (some ⟨x, 0, none⟩), .int .i64 z] w (Done (WH W m b x St S (A.flushZ 0 z) K sl) w G (.int .i64 (A.flushE 0 z))) := by
  have C := hide (h.st.flush M hok 0 z)
  have HH := hide h
  have pm := h.rep.pm
  clear h
  generalize A.flushE 0 z = E at *
  generalize A.flushZ 0 z = A2 at *
  go_enter Try.func50, Try.ntmps50
  go_wp2_with fail
  refine (unhide C).mono ?_
  intro e w1 hd
  have HD := hide ((unhide HH).lift hd)
  obtain ⟨rfl, -, -⟩ := hd
  clear C HH pm
  go_wp2_with fail
  go_ret
  exact unhide HD
theorem wfence_any {W w : World} {m b x : Nat} {St : Mm → World → (Nat → Prop) → Prop} {S : Sto} {A : Mm} {K : Wk} {sl : Value} {G : Nat → Prop} (M : MemX W m St) (h : WH W m b x St S A K sl w G) (hok : A.ok 1000) (z : Int) :
    Calls Try.prog 54 #[.pointer (some ⟨x, 0, none⟩), .int .i64 z] w (Done (WH W m b x St S (A.fenceZ 0) K sl) w G (.int .i64 (A.fenceE 0))) := by
  have C := hide (h.st.fence M hok 0)
  have HH := hide h
  have pm := h.rep.pm
  clear h
  generalize A.fenceE 0 = E at *
  generalize A.fenceZ 0 = A2 at *
  go_enter Try.func54, Try.ntmps54
  go_wp2_with fail
  refine (unhide C).mono ?_
  intro e w1 hd
  have HD := hide ((unhide HH).lift hd)
  obtain ⟨rfl, -, -⟩ := hd
  clear C HH pm
  go_wp2_with fail
  go_ret
  exact unhide HD

end Go.Proofs.Ytinhnnnehhlceaa
