/-
  Frames that a call has made, beside blocks of the call's own: what each of their calls leaves; the statements' kind; the document's examples.
-/
import Derived.Test.YtkoaajcfnnpiaaaFMake
namespace Go.Proofs.Ytkoaajcfnnpiaaa
open Go.ChangeShapes Go.WideShapes Go.ChangeAt Go.RowKit Go.Joins
set_option maxRecDepth 10000
set_option linter.unusedVariables false
set_option linter.unusedSimpArgs false

def FSame (G : Nat → Prop) (w w' : World) : Prop := ∀ k, G k → w'.heap[k]? = w.heap[k]?
structure FHas (W w : World) (G : Nat → Prop) (b : Nat) (A : Fr) : Prop where
  rep : FRep w b A
  ok : A.ok
  keeps : Keeps (fun _ => False) W w
  new : W.heap.size ≤ b
  gs : ∀ k, G k → k ≠ b ∧ k < w.heap.size
def FAfter (W w : World) (G : Nat → Prop) (b : Nat) (A' : Fr) (v : Value) (e : Ending) (w' : World) : Prop := e = .returned v ∧ FHas W w' G b A' ∧ FSame G w w'

section
variable {W w : World} {G : Nat → Prop} {b : Nat} {A : Fr}
theorem fwent_has (h : FHas W w G b A) {A' : Fr} (hok : A'.ok) {v : Value} {e : Ending} {w' : World} (hw : FWent w b A' v e w') : FAfter W w G b A' v e w' := by
  obtain ⟨he, h1, h2⟩ := hw
  refine ⟨he, ⟨h1, hok, ⟨h2.os.trans h.keeps.os, h2.tape.trans h.keeps.tape, h2.output.trans h.keeps.output, Nat.le_trans h.keeps.size h2.size, fun k hk _ => ?_⟩, h.new, fun k hk => ⟨(h.gs k hk).1, Nat.lt_of_lt_of_le (h.gs k hk).2 h2.size⟩⟩, fun k hk => h2.block k (h.gs k hk).2 (h.gs k hk).1⟩
  rw [h2.block k (Nat.lt_of_lt_of_le hk h.keeps.size) (fun e => by have := h.new; omega)]; exact h.keeps.block k hk id
theorem FHas.alloc (h : FHas W w G b A) (o : Obj) : FHas W (w.alloc o) (fun k => G k ∨ k = w.heap.size) b A :=
  ⟨h.rep.keeps (F := fun _ => False) ((Keeps.refl _ _).alloc o) id, h.ok, h.keeps.alloc o, h.new, fun k hk => by
    rcases hk with hk | rfl
    · exact ⟨(h.gs k hk).1, by have := (h.gs k hk).2; simp; omega⟩
    · exact ⟨by have := h.rep.lt; omega, by simp⟩⟩
theorem FHas.drew (h : FHas W w G b A) : FHas W w.drew G b A := ⟨h.rep, h.ok, h.keeps.drew, h.new, h.gs⟩
theorem FHas.less {G' : Nat → Prop} (h : FHas W w G b A) (hG : ∀ k, G' k → G k) : FHas W w G' b A := ⟨h.rep, h.ok, h.keeps, h.new, fun k hk => h.gs k (hG k hk)⟩
theorem FHas.own {w' : World} (h : FHas W w G b A) {L : Nat} (hL : G L) (hW : W.heap.size ≤ L) (hk : Keeps (· = L) w w') : FHas W w' G b A :=
  ⟨h.rep.keeps hk (fun e => (h.gs L hL).1 e.symm), h.ok, ⟨hk.os.trans h.keeps.os, hk.tape.trans h.keeps.tape, hk.output.trans h.keeps.output, Nat.le_trans h.keeps.size hk.size, fun k hk' _ => by
    rw [hk.block k (Nat.lt_of_lt_of_le hk' h.keeps.size) (by omega)]; exact h.keeps.block k hk' id⟩, h.new, fun k hk' => ⟨(h.gs k hk').1, Nat.lt_of_lt_of_le (h.gs k hk').2 hk.size⟩⟩
/-- Another call, that makes or turns blocks beside all of these. -/
theorem FHas.beside {w' : World} {F : Nat → Prop} (h : FHas W w G b A) (hk : Keeps F w w') (hF : ∀ k, F k → W.heap.size ≤ k ∧ k ≠ b) : FHas W w' G b A :=
  ⟨h.rep.keeps hk (fun e => (hF b e).2 rfl), h.ok, ⟨hk.os.trans h.keeps.os, hk.tape.trans h.keeps.tape, hk.output.trans h.keeps.output, Nat.le_trans h.keeps.size hk.size, fun k hk' _ => by
    rw [hk.block k (Nat.lt_of_lt_of_le hk' h.keeps.size) (fun e => by have := (hF k e).1; omega)]; exact h.keeps.block k hk' id⟩, h.new, fun k hk' => ⟨(h.gs k hk').1, Nat.lt_of_lt_of_le (h.gs k hk').2 hk.size⟩⟩

theorem FHas.state (h : FHas W w G b A) (z : Int) : Calls Try.prog 41 #[.pointer (some ⟨b, 0, none⟩), .int .i64 z] w fun e w' => e = .returned (.int .i64 (A.st z)) ∧ w' = w := state_any h.rep h.ok z
theorem FHas.left (h : FHas W w G b A) : Calls Try.prog 39 #[.pointer (some ⟨b, 0, none⟩)] w fun e w' => e = .returned (.int .i64 (A.left : Int)) ∧ w' = w := left_any h.rep h.ok
theorem FHas.take (h : FHas W w G b A) (z : Int) : Calls Try.prog 30 #[.pointer (some ⟨b, 0, none⟩), .int .i64 z] w (FAfter W w G b (A.turnA z 0 1) (.int .i64 (A.turnE z 0))) :=
  (take_any h.rep h.ok z).mono fun e w' hw => fwent_has h (turn_ok h.ok _ _ (Or.inr (Or.inl rfl))) hw
theorem FHas.free (h : FHas W w G b A) (z : Int) : Calls Try.prog 32 #[.pointer (some ⟨b, 0, none⟩), .int .i64 z] w (FAfter W w G b (A.turnA z 1 0) (.int .i64 (A.turnE z 1))) :=
  (free_any h.rep h.ok z).mono fun e w' hw => fwent_has h (turn_ok h.ok _ _ (Or.inl rfl)) hw
theorem FHas.later (h : FHas W w G b A) (z : Int) : Calls Try.prog 34 #[.pointer (some ⟨b, 0, none⟩), .int .i64 z] w (FAfter W w G b (A.turnA z 1 2) (.int .i64 (A.turnE z 1))) :=
  (later_any h.rep h.ok z).mono fun e w' hw => fwent_has h (turn_ok h.ok _ _ (Or.inr (Or.inr rfl))) hw
theorem FHas.settle (h : FHas W w G b A) : Calls Try.prog 36 #[.pointer (some ⟨b, 0, none⟩)] w (FAfter W w G b A.settle (.tuple #[])) :=
  (settle_any h.rep h.ok).mono fun e w' hw => fwent_has h (settle_ok h.ok) hw
theorem FHas.allocate (h : FHas W w G b A) : Calls Try.prog 28 #[.pointer (some ⟨b, 0, none⟩)] w (FAfter W w G b A.allocA (.tuple #[.int .i64 A.allocV, .int .i64 A.allocE])) :=
  (alloc_any h.rep h.ok).mono fun e w' hw => fwent_has h (alloc_ok h.ok) hw
end
theorem fmade_has {w : World} {A : Fr} {e : Ending} {w' : World} (W : World) (hW : Keeps (fun _ => False) W w) (hok : A.ok) (h : FMade w A e w') (G : Nat → Prop) (hG : ∀ k, G k → k < w.heap.size) :
    ∃ b, e = .returned (.tuple #[.pointer (some ⟨b, 0, none⟩), .int .i64 0]) ∧ FHas W w' G b A ∧ FSame G w w' := by
  obtain ⟨b, h1, h2, h3, h4⟩ := h
  exact ⟨b, h1, ⟨h2, hok, hW.trans' h3, Nat.le_trans hW.size h4, fun k hk => ⟨by have := hG k hk; omega, Nat.lt_of_lt_of_le (hG k hk) h3.size⟩⟩, fun k hk => h3.block k (hG k hk) id⟩

/-! ### The statements' kind -/
def FIn64 (z : Int) : Prop := -9223372036854775808 ≤ z ∧ z ≤ 9223372036854775807
theorem fin64_wf {z : Int} (h : (Lit.int .i64 z).wf = true) : FIn64 z := by
  simp [Lit.wf, IntKind.min, IntKind.max, IntKind.signed, IntKind.bits] at h; exact ⟨by omega, by omega⟩
def fkN (z : Int) (n : Nat) : Nat := ((if z < 0 then -(z + 1) else z) % (n : Int)).toNat
theorem fkN_lt (z : Int) (n : Nat) (hn : 0 < n) : fkN z n < n := by
  unfold fkN
  have h1 := Int.emod_nonneg (if z < 0 then -(z + 1) else z) (show (n : Int) ≠ 0 by omega)
  have h2 := Int.emod_lt_of_pos (if z < 0 then -(z + 1) else z) (show (0 : Int) < (n : Int) by omega)
  omega
theorem ftmod_neg (z : Int) (hz : z < 0) (n : Int) (hn : 0 < n) : -((z + 1).tmod n) = (((-(z + 1)) % n).toNat : Int) := by
  rw [← Int.neg_tmod, Int.tmod_eq_emod_of_nonneg (by omega)]
  have := Int.emod_nonneg (-(z + 1)) (show n ≠ 0 by omega)
  omega
theorem ftmod_pos (z : Int) (hz : 0 ≤ z) (n : Int) (hn : 0 < n) : z.tmod n = ((z % n).toNat : Int) := by
  rw [Int.tmod_eq_emod_of_nonneg hz]
  have := Int.emod_nonneg z (show n ≠ 0 by omega)
  omega
theorem femod_toNat (z : Int) (n : Int) (hn : 0 < n) : z % n = ((z % n).toNat : Int) := by
  have := Int.emod_nonneg z (show n ≠ 0 by omega)
  omega
theorem fkind_any (z : Int) (hz : FIn64 z) (n : Nat) (hn : 0 < n) (hn2 : n ≤ 1000) (w : World) :
    Calls Try.prog 27 #[.int .i64 z, .int .i64 (n : Int)] w fun e w' => e = .returned (.int .i64 ((fkN z n : Nat) : Int)) ∧ w' = w := by
  obtain ⟨z0, z1⟩ := hz
  by_cases hneg : z < 0
  · go_enter Try.func27, Try.ntmps27
    go_wp2
    go_ret
    refine ⟨fret_int ?_, rfl⟩
    unfold fkN
    rw [if_pos hneg]
    exact ftmod_neg z hneg _ (by omega)
  · go_enter Try.func27, Try.ntmps27
    go_wp2
    go_ret
    refine ⟨fret_int ?_, rfl⟩
    unfold fkN
    rw [if_neg (by omega)]
    first | exact femod_toNat z _ (by omega) | exact ftmod_pos z (by omega) _ (by omega)

/-! ### The document's examples -/
def fs0 : Fr := Fr.new 2 5
def fs1 : Fr := fs0.allocA
def fs2 : Fr := fs1.allocA
def fs3 : Fr := fs2.turnA 2 1 2
def fs4 : Fr := fs3.allocA
def fs5 : Fr := fs4.allocA
def fs6 : Fr := fs5.settle
def fs7 : Fr := fs6.allocA
theorem fa0 : fs0.allocV = 2 := by decide +kernel
theorem fa1 : fs1.allocV = 3 := by decide +kernel
theorem fa2 : fs2.turnE 2 1 = 0 := by decide +kernel
theorem fa3 : fs3.allocV = 4 := by decide +kernel
theorem fa4 : fs4.allocE = 10 := by decide +kernel
theorem fa6 : fs6.allocV = 2 := by decide +kernel
theorem fa7 : fs7.turnE 9 1 = 1 := by decide +kernel
theorem fshown_any (W : World) : Calls Try.prog 24 #[] W fun e w' => e = .returned (.bool true) ∧ Keeps (fun _ => False) W w' := by
  go_enter Try.func24, Try.ntmps24
  go_wp2_with fail
  refine (fnew_any W 2 5 (by decide) (by decide)).mono ?_
  intro e w0 hm
  obtain ⟨b, rfl, h0, -⟩ := fmade_has W (Keeps.refl _ _) (new_ok (by decide) (by decide)) hm (fun _ => False) (fun _ h => h.elim)
  have H0 : Hid (FHas W w0 (fun _ => False) b fs0) := h0
  clear hm h0
  go_wp2_with fail
  refine ((unhide H0).allocate).mono ?_
  rintro e w1 ⟨rfl, h1, -⟩
  have H1 : Hid (FHas W w1 (fun _ => False) b fs1) := h1
  clear h1 H0
  rw [fa0]
  go_wp2_with fail
  refine ((unhide H1).allocate).mono ?_
  rintro e w2 ⟨rfl, h1, -⟩
  have H2 : Hid (FHas W w2 (fun _ => False) b fs2) := h1
  clear h1 H1
  rw [fa1]
  go_wp2_with fail
  refine ((unhide H2).later 2).mono ?_
  rintro e w3 ⟨rfl, h1, -⟩
  have H3 : Hid (FHas W w3 (fun _ => False) b fs3) := h1
  clear h1 H2
  rw [fa2]
  go_wp2_with fail
  refine ((unhide H3).allocate).mono ?_
  rintro e w4 ⟨rfl, h1, -⟩
  have H4 : Hid (FHas W w4 (fun _ => False) b fs4) := h1
  clear h1 H3
  rw [fa3]
  go_wp2_with fail
  refine ((unhide H4).allocate).mono ?_
  rintro e w5 ⟨rfl, h1, -⟩
  have H5 : Hid (FHas W w5 (fun _ => False) b fs5) := h1
  clear h1 H4
  rw [fa4]
  go_wp2_with fail
  refine ((unhide H5).settle).mono ?_
  rintro e w6 ⟨rfl, h1, -⟩
  have H6 : Hid (FHas W w6 (fun _ => False) b fs6) := h1
  clear h1 H5
  go_wp2_with fail
  refine ((unhide H6).allocate).mono ?_
  rintro e w7 ⟨rfl, h1, -⟩
  have H7 : Hid (FHas W w7 (fun _ => False) b fs7) := h1
  clear h1 H6
  rw [fa6]
  go_wp2_with fail
  refine ((unhide H7).free 9).mono ?_
  rintro e w8 ⟨rfl, h1, -⟩
  have HK := hide h1.keeps
  clear h1 H7
  rw [fa7]
  go_wp2_with fail
  go_ret
  exact ⟨rfl, unhide HK⟩

end Go.Proofs.Ytkoaajcfnnpiaaa
