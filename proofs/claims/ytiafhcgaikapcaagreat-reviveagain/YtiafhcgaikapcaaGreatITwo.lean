
/-
  A store that came back, as the company of the memory: a second Boot beside it, a record appended.
-/
import Derived.Test.YtiafhcgaikapcaaGreatIBoot
import Derived.Test.YtiafhcgaikapcaaGreatIForm
import Derived.Test.YtiafhcgaikapcaaGreatIDone
import Derived.Test.YtiafhcgaikapcaaGreatPkRlog
namespace Go.Proofs.YtiafhcgaikapcaaGreat
open Go.ChangeShapes Go.WideShapes Go.ChangeAt Go.RowKit Go.Joins
set_option maxRecDepth 10000
set_option linter.unusedVariables false
set_option linter.unusedSimpArgs false

section
variable {W w : World} {m b : Nat} {St : Mm → World → (Nat → Prop) → Prop} {S : Sto} {A : Mm} {G : Nat → Prop}
theorem SHas.ofMemI (h : SHas W m b St S A w G) {A' : Mm} {v : Value} {e : Ending} {w' : World} (hd : Done (St A') w (fun k => G k ∨ k = b) v e w') : Done (SHas W m b St S A') w G v e w' := by
  obtain ⟨he, h1, h2⟩ := hd
  refine ⟨he, ⟨?_, h1, h.nb, h.new⟩, fun k hg => h2 k (Or.inl hg)⟩
  have := h.rep
  unfold SRep Blk at this ⊢
  rw [h2 b (Or.inr rfl)]; exact this
theorem SHas.memI (M : MemI W m St) (b : Nat) (S : Sto) : MemI W m (fun A w G => SHas W m b St S A w G) where
  stay := fun A => SHas.stay M.toMemL b S A
  store := fun w G A h hok z q v => h.store M.toMemL hok z q v
  lines := fun w G A h => M.lines w _ A h.st
  load := fun w G A h hn z => h.load M.toMemL hn z
  flush := fun w G A h hok y z => (M.flush w _ A h.st hok y z).mono fun e w' hd => h.ofMemI hd
  fence := fun w G A h hok y => (M.fence w _ A h.st hok y).mono fun e w' hd => h.ofMemI hd
  write := fun w G A h hok core slot s hs => (M.write w _ A h.st hok core slot s hs).mono fun e w' hd => h.ofMemI hd
  find := fun w G A h hok => (M.find w _ A h.st hok).mono fun e w' hd => h.ofMemI hd
  dir := fun w G A h hok fr root hz => M.dir w _ A h.st hok fr root hz
  scan := fun w G A h hok z => h.scan M hok z
/-- A call on a store beneath another one. -/
theorem SHas.under {b2 : Nat} {S2 : Sto} (h : SHas W m b2 (fun A w G => SHas W m b St S A w G) S2 A w G) {v : Value} {e : Ending} {w' : World} (hd : Done (SHas W m b St S A) w (fun k => G k ∨ k = b2) v e w') : Done (SHas W m b2 (fun A w G => SHas W m b St S A w G) S2 A) w G v e w' := by
  obtain ⟨he, h1, h2⟩ := hd
  refine ⟨he, ⟨?_, h1, h.nb, h.new⟩, fun k hg => h2 k (Or.inl hg)⟩
  have := h.rep
  unfold SRep Blk at this ⊢
  rw [h2 b2 (Or.inr rfl)]; exact this
end
theorem SHas.appI {W w : World} {m b : Nat} {S : Sto} {A : Mm} {G : Nat → Prop} (h : SHas W m b (fun A w G => Has W w G m A) S A w G) (hok : A.ok 900) (core seq : Int) (r : Rc) (hr : r.ok) :
    Calls Tryz.prog 62 #[.pointer (some ⟨m, 0, none⟩), .int .i64 core, .int .i64 seq, .agg (rv r)] w (Done (SHas W m b (fun A w G => Has W w G m A) S (A.appZ core seq r)) w G (.int .i64 (A.appE core seq r))) :=
  (h.st.appR hok core seq r hr).mono fun e w' hd => h.ofMemI hd

/-! ### a new memory -/
theorem new_su (n : Nat) (h1 : 64 ≤ n) (h2 : n ≤ 1024) : Su n (Mm.new n fun _ _ => 0) (fun _ _ => 0) := ⟨⟨rfl, rfl⟩, rfl, fun i => ⟨rfl, fun j hj => rfl⟩⟩
theorem Mm.cs_le (A : Mm) : A.cs ≤ 8 := by
  by_cases h : A.findE = 0
  · obtain ⟨⟨c, hc, _, c8⟩, _⟩ := find_bd h
    omega
  · have : A.findV = zs4 := by
      unfold Mm.findV
      unfold Mm.findE at h
      split
      · rename_i q
        rw [Bool.and_eq_true] at q
        rw [if_pos q.1, if_pos q.2] at h
        exact absurd rfl h
      · rfl
    unfold Mm.cs
    rw [this]
    decide
theorem Mm.rs_le (A : Mm) : A.rs.length ≤ 32 := A.rs_len A.cs_le
theorem new_boot (n : Nat) : bootE (Mm.new n fun _ _ => 0) = 20 ∧ bootM (Mm.new n fun _ _ => 0) = Mm.new n fun _ _ => 0 := by
  have hf : (Mm.new n fun _ _ => 0).findE = 20 := by
    have hon : (Mm.new n fun _ _ => 0).on = true := rfl
    unfold Mm.findE Mm.bestM
    rw [if_pos hon]
    have h0 : isS (rowOf ((Mm.new n fun _ _ => 0).l 0).has) = false := isS_nought _ (by rw [rowOf_get _ 7 (by decide)]; rfl)
    have h1 : isS (rowOf ((Mm.new n fun _ _ => 0).l 1).has) = false := isS_nought _ (by rw [rowOf_get _ 7 (by decide)]; rfl)
    unfold bestIs bestB
    rw [h0, h1]
    rfl
  have hne : (Mm.new n fun _ _ => 0).findE ≠ 0 := by rw [hf]; decide
  exact ⟨(if_neg hne).trans hf, if_neg hne⟩
/-- A new memory is made an image. -/
theorem new_fmt (n c : Nat) (h1 : 64 ≤ n) (h2 : n ≤ 1024) (l : List Ob) (hb : fmtB (c : Int) l = true) (hl : fromN c + cntO l + 8 ≤ n) :
    (fmtP (Mm.new n fun _ _ => 0) (c : Int) l).2 = 0 ∧ (∃ D, Su n (fmtP (Mm.new n fun _ _ => 0) (c : Int) l).1 D) ∧ Im n c (tabO (fromN c) l) (dirO (fromN c + cntO l)) (fun i => (l.getD i ob0).l) (fun _ => none) (fmtP (Mm.new n fun _ _ => 0) (c : Int) l).1 := by
  obtain ⟨e1, e2⟩ := (new_su n h1 h2).fmt (fun i => Nat.le_refl _) h1 h2 hb (by rw [Int.toNat_natCast]; exact hl)
  exact ⟨e1, ⟨_, e2⟩, Im.of_fmt hb h1 h2 hl e2⟩
theorem fmtP_okt {A : Mm} {B : Nat} (h : A.ok B) (c : Nat) (l : List Ob) (hl : ∀ j i, InU ((l.getD j ob0).l i)) : (fmtP A (c : Int) l).1.ok (B + (2 * fromN c + 9 * l.length + 85)) := by
  unfold fmtP
  split
  · split
    · exact ok_mono h (by omega)
    · rw [Int.toNat_natCast]
      refine ok_mono (andP_of (B := B + 2 * fromN c + 1 + (9 * l.length + 73)) (C := 11) (andP_of (B := B + 2 * fromN c + 1) (C := 9 * l.length + 73) (andP_of (B := B + 2 * fromN c) (C := 1) (wipeP_ok h _) fun D hD => feP_ok hD) fun D hD => ok_mono (wrtP_ok hD _ l hl) (by omega)) fun D hD => ok_writeZ hD _ _ _) (by omega)
  · exact ok_mono h (by omega)

end Go.Proofs.YtiafhcgaikapcaaGreat
