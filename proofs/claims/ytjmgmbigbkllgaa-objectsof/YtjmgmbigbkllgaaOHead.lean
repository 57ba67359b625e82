
/-
  The stores that the statements begin with; what a Set, a Make comes to on a memory whose power stays on.
-/
import Derived.Test.YtjmgmbigbkllgaaOShown
import Derived.Test.YtjmgmbigbkllgaaOCalm
import Derived.Test.YtjmgmbigbkllgaaOCommit
namespace Go.Proofs.Ytjmgmbigbkllgaa
open Go.ChangeShapes Go.WideShapes Go.ChangeAt Go.RowKit Go.Joins
set_option maxRecDepth 100000
set_option linter.unusedVariables false
set_option linter.unusedSimpArgs false

/-- A store of n objects on a memory of N lines. -/
def sS (n N : Nat) : Sto := ofS (Fr.new 10 N) (tblF n) dirF
def sA (N : Nat) : Mm := Mm.new N fun _ _ => 0
theorem ofB_64 : ∀ n, n < 31 → ofB (Fr.new 10 64) (tblF n) dirF = true := by decide +kernel
theorem ofB_tbl (n N : Nat) (hn : n < 31) (hN : 64 ≤ N) : ofB (Fr.new 10 N) (tblF n) dirF = true := by
  have h := (takesB_iff _ _).1 (ofB_64 n hn)
  refine (takesB_iff _ _).2 ⟨fun z hz => ?_, h.2⟩
  obtain ⟨⟨h1, h2⟩, h3⟩ := h.1 z hz
  exact ⟨⟨h1, by have : z < ((64 : Nat) : Int) := h2; show z < (N : Int); omega⟩, h3⟩
theorem sS_ok (n N : Nat) (h1 : 10 ≤ N) (h2 : N ≤ 1024) : (sS n N).ok := ofS_ok (new_ok h1 h2) (tblF_v24 n) _
theorem sA_ok (N : Nat) (h1 : 64 ≤ N) (h2 : N ≤ 1024) : (sA N).ok 0 := new0_ok N h1 h2
theorem sS_lo (n N : Nat) : (sS n N).F.lo = 10 ∧ (sS n N).F.hi = N := takeL_lo _ _
theorem sof_tbl {W : World} {m : Nat} (n N : Nat) (hn : n < 31) (h1 : 64 ≤ N) (h2 : N ≤ 1024) (w : World) (G : Nat → Prop) (h : Has W w G m (sA N)) :
    Calls Try.prog 11 #[.pointer (some ⟨m, 0, none⟩), .int .i64 10, .agg (tabV (tblF n)), .agg (dirV dirF)] w fun e w' => ∃ b, e = .returned (.tuple #[.pointer (some ⟨b, 0, none⟩), .int .i64 0]) ∧ SHas W m b (fun A w G => Has W w G m A) (sS n N) (sA N) w' G ∧ Same G w w' := by
  have := sof_any (Has.memL W m) h 10 (tblF n) dirF (by show 10 ≤ N; omega) h2
  refine this.mono ?_
  intro e w' hw
  unfold OfPost at hw
  have e0 : ofB (Fr.new 10 (sA N).n) (tblF n) dirF = true := ofB_tbl n N hn h1
  rw [if_pos e0] at hw
  exact hw

/-! ### on a memory whose power stays on -/
theorem lay_calm {S : Sto} {A : Mm} (hc : Calm A) (ha : S.F.allocE = 0) (hz : A.isZ S.F.allocV) (l : Nat → Int) :
    S.layE A l = 0 ∧ Calm (S.layM A l) ∧ (∀ y, A.isZ y → y ≠ S.F.allocV → (S.layM A l).hasZ y = A.hasZ y) ∧ ∀ j, j < 8 → (S.layM A l).hasZ S.F.allocV j = l j := by
  obtain ⟨h1, h2, h3, h4⟩ := calm_lay hc hz l 8 (Nat.le_refl _)
  unfold Sto.layE Sto.layM
  rw [if_pos ha, if_pos ha]
  exact ⟨h2, h1, h3, fun j hj => by rw [h4, if_pos hj]⟩
theorem lay_none {S : Sto} {A : Mm} (ha : S.F.allocE ≠ 0) (l : Nat → Int) : S.layE A l = 10 ∧ S.layM A l = A ∧ S.took = S := by
  have h := alloc_none ha
  unfold Sto.layE Sto.layM Sto.took
  rw [if_neg ha, if_neg ha, h.1]
  exact ⟨h.2.1, rfl, rfl⟩
/-- The line is its own. -/
theorem set_again {S : Sto} {A : Mm} {z q : Int} (hc : Calm A) (hq : is8 q) (hf : S.findE z = 0) (ho : S.own (S.line z) = true) (hz : A.isZ (S.line z)) (v : Int) : S.setE A z q v = 0 ∧ S.setS A z q v = S ∧ S.setM A z q v = A.storeZ (S.line z) q v := by
  refine ⟨?_, ?_, ?_⟩
  · unfold Sto.setE; rw [if_pos hq, if_pos hf, if_pos ho]; exact calm_storeE hc hz hq
  · unfold Sto.setS; rw [if_pos ⟨hq, hf⟩, if_pos ho]
  · unfold Sto.setM; rw [if_pos ⟨hq, hf⟩, if_pos ho]
/-- The line is not, and no frame is free. -/
theorem set_out {S : Sto} {A : Mm} {z q : Int} (hq : is8 q) (hf : S.findE z = 0) (ho : S.own (S.line z) = false) (hl : S.F.allocE ≠ 0) (v : Int) : S.setE A z q v = 10 ∧ S.setS A z q v = S ∧ S.setM A z q v = A := by
  have h0 := left_none hl
  have hn : ¬ S.own (S.line z) = true := by simp [ho]
  refine ⟨?_, ?_, ?_⟩
  · unfold Sto.setE; rw [if_pos hq, if_pos hf, if_neg hn, if_pos h0]
  · unfold Sto.setS; rw [if_pos ⟨hq, hf⟩, if_neg hn, if_neg (fun c => c.1 h0)]
  · unfold Sto.setM; rw [if_pos ⟨hq, hf⟩, if_neg hn, if_neg (fun c => c.1 h0)]
/-- The line is not, and one is. -/
theorem set_first {S : Sto} {A : Mm} {z q : Int} (hc : Calm A) (hq : is8 q) (hf : S.findE z = 0) (ho : S.own (S.line z) = false) (hz : A.isZ (S.line z)) (ha : S.F.allocE = 0) (hy : A.isZ S.F.allocV) (v : Int) :
    S.setE A z q v = 0 ∧ S.setS A z q v = S.took.withW z.toNat (moved (S.w z.toNat) S.F.allocV) ∧ S.setM A z q v = S.layM A (S.copy A z q v) := by
  have hn : ¬ S.own (S.line z) = true := by simp [ho]
  have hl : S.F.left ≠ 0 := fun e => left_iff.1 e ha
  have hle := calm_loadE hc hz
  have he := (lay_calm (S := S) hc ha hy (S.copy A z q v)).1
  refine ⟨?_, ?_, ?_⟩
  · unfold Sto.setE; rw [if_pos hq, if_pos hf, if_neg hn, if_neg hl, if_pos hle]; exact he
  · unfold Sto.setS; rw [if_pos ⟨hq, hf⟩, if_neg hn, if_pos ⟨hl, hle⟩, if_pos he]
  · unfold Sto.setM; rw [if_pos ⟨hq, hf⟩, if_neg hn, if_pos ⟨hl, hle⟩]

end Go.Proofs.Ytjmgmbigbkllgaa
