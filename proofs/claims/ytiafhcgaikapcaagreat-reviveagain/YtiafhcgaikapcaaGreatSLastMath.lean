
/-
  What a Write leaves, in plain mathematics: whole, or some first stores of it; what is found behind it.
-/
import Derived.Test.YtiafhcgaikapcaaGreatPkMem
namespace Go.Proofs.YtiafhcgaikapcaaGreat
set_option maxRecDepth 10000
set_option linter.unusedVariables false

theorem row_less (l : List Int) (f : Nat → Int) (m : Nat) (h0 : f 7 = 0) (hm : m ≤ 8) : isS (rowOf (runS ((stW l 8).take m) f)) = false := by
  refine isS_nought _ ?_
  rw [rowOf_get _ 7 (by decide)]
  cases m with
  | zero => exact h0
  | succ m => rw [stW_take l 8 m (by omega), run_stW l f m 7 (by omega), if_neg (by omega), if_pos rfl]

theorem wrote (A : Mm) (ht : ∀ i, (A.l i).t = []) (hn : 64 ≤ A.n) (core : Int) (hc : is8 core) (slot : Int) (k : Nat) (ek : slot = (k : Int)) (hk : k < 2) (s : List Int) (hm : mayS s = true) : WroteInv A k (lineS s) (A.writeZ core slot s) (A.writeE core slot s) := by
  have hok : okW slot s = true := by simp [okW, hm]; omega
  have hV : lineV s = lineS s := by simp [lineV, hm]
  obtain ⟨m, h1, h2, h3⟩ := puts_inv A k (lineS s) (ht k) 8 (Nat.le_refl _)
  have hz : is8 core ∧ (A.puts k (lineS s) 8).isZ slot := ⟨hc, by unfold Mm.isZ; rw [puts_n]; omega⟩
  unfold Mm.writeZ Mm.writeE
  rw [if_pos hok, if_pos hok, hV, show slot.toNat = k by omega]
  generalize A.puts k (lineS s) 8 = P at *
  cases hon : P.on
  · rw [if_neg (by simp), if_neg (by simp)]
    exact ⟨Or.inl ⟨m, h1, h2.s, h2.t, by decide⟩, fun i hi => by rw [h2.o i hi]; exact ⟨rfl, ht i⟩⟩
  · have hm9 := h3 hon
    subst hm9
    rw [if_pos rfl, if_pos rfl]
    unfold Mm.flushE Mm.flushZ
    rw [if_pos hz, if_pos hz]
    have hfl : ((P.flush core.toNat slot.toNat).l k).s = (A.l k).s ∧ ((P.flush core.toNat slot.toNat).l k).t = stW (lineS s) 8 ∧ (∀ i, i ≠ k → (P.flush core.toNat slot.toNat).l i = A.l i) ∧ (P.err = 0 → ((P.flush core.toNat slot.toNat).l k).f core.toNat = 9) := by
      unfold Mm.flush Mm.step
      rw [show slot.toNat = k by omega]
      have hT : (P.l k).t = stW (lineS s) 8 := by rw [h2.t]; exact stW_take _ 8 8 (Nat.le_refl _)
      cases hmay : P.may
      · exact ⟨h2.s, hT, h2.o, fun he => by simp [Mm.err, hmay] at he⟩
      · refine ⟨?_, ?_, fun i hi => ?_, fun _ => ?_⟩
        · simp [Mm.stepped, upd, Ln.flush, h2.s]
        · simp [Mm.stepped, upd, Ln.flush, hT]
        · show upd P.l k _ i = _
          rw [upd_other _ _ _ _ hi]; exact h2.o i hi
        · show (upd P.l k _ k).f _ = _
          rw [upd_same]
          show upd _ _ _ _ = _
          rw [upd_same, hT, stW_len]
    generalize P.flush core.toNat slot.toNat = Q at *
    by_cases he : P.err = 0
    · rw [if_pos he, if_pos he]
      unfold Mm.fenceZ Mm.fenceE
      rw [if_pos hc, if_pos hc]
      unfold Mm.fence Mm.step Mm.err
      cases hmay : Q.may
      · exact ⟨Or.inl ⟨9, by omega, hfl.1, by rw [show (9 : Nat) = 8 + 1 from rfl, stW_take _ 8 8 (Nat.le_refl _)]; exact hfl.2.1, by simp⟩, fun i hi => by
          show (Q.l i).s = _ ∧ (Q.l i).t = _
          rw [hfl.2.2.1 i hi]; exact ⟨rfl, ht i⟩⟩
      · refine ⟨Or.inr ⟨?_, ?_⟩, fun i hi => ?_⟩
        · show runS ((Q.l k).t.take ((Q.l k).f core.toNat)) (Q.l k).s = _
          rw [hfl.2.2.2 he, hfl.1, hfl.2.1, show (9 : Nat) = 8 + 1 from rfl, stW_take _ 8 8 (Nat.le_refl _)]
        · show (Q.l k).t.drop ((Q.l k).f core.toNat) = _
          rw [hfl.2.2.2 he, hfl.2.1]
          exact List.drop_eq_nil_of_le (by rw [stW_len]; exact Nat.le_refl _)
        · show runS ((Q.l i).t.take _) (Q.l i).s = _ ∧ (Q.l i).t.drop _ = _
          rw [hfl.2.2.1 i hi, ht i]; simp [runS]
    · rw [if_neg he, if_neg he]
      exact ⟨Or.inl ⟨9, by omega, hfl.1, by rw [show (9 : Nat) = 8 + 1 from rfl, stW_take _ 8 8 (Nat.le_refl _)]; exact hfl.2.1, he⟩, fun i hi => by rw [hfl.2.2.1 i hi]; exact ⟨rfl, ht i⟩⟩
theorem wrote_free (A : Mm) (hon : A.on = true) (hf : A.fuse = -1) (hn : 64 ≤ A.n) (core : Int) (hc : is8 core) (slot : Int) (k : Nat) (ek : slot = (k : Int)) (hk : k < 2) (s : List Int) (hm : mayS s = true) :
    A.writeE core slot s = 0 ∧ (A.writeZ core slot s).on = true ∧ (A.writeZ core slot s).fuse = -1 := by
  have hok : okW slot s = true := by simp [okW, hm]; omega
  obtain ⟨h1, h2⟩ := puts_free A hon hf slot.toNat (lineV s) 8
  have hz : is8 core ∧ (A.puts slot.toNat (lineV s) 8).isZ slot := ⟨hc, by unfold Mm.isZ; rw [puts_n]; omega⟩
  unfold Mm.writeZ Mm.writeE
  rw [if_pos hok, if_pos hok]
  generalize A.puts slot.toNat (lineV s) 8 = P at *
  rw [if_pos h1, if_pos h1]
  unfold Mm.flushE Mm.flushZ
  rw [if_pos hz, if_pos hz]
  obtain ⟨-, g1, g2, g3⟩ := step_free P h1 h2 (upd P.l slot.toNat ((P.l slot.toNat).flush core.toNat))
  rw [if_pos g3, if_pos g3]
  unfold Mm.fenceZ Mm.fenceE
  rw [if_pos hc, if_pos hc]
  obtain ⟨-, k1, k2, k3⟩ := step_free (P.flush core.toNat slot.toNat) g1 g2 (fun i => ((P.flush core.toNat slot.toNat).l i).settle (((P.flush core.toNat slot.toNat).l i).f core.toNat))
  exact ⟨k3, k1, k2⟩
/-! ### What is found: one slot's superblock, or the other's -/
theorem best_one (s : List Int) (hs : s.length = 4) (hm : mayS s = true) (X : List Int) (hX : isS X = false) : bestIs (lineS s) X = true ∧ bestV (lineS s) X = s ∧ bestAt (lineS s) X = 0 := by
  have hb : bestB (lineS s) X = false := by simp [bestB, hX]
  unfold bestIs bestV bestAt
  rw [hb]
  exact ⟨isS_line s hs hm, readV_line s hs hm, rfl⟩
theorem best_other (s : List Int) (hs : s.length = 4) (hm : mayS s = true) (X : List Int) (hX : isS X = false) : bestIs X (lineS s) = true ∧ bestV X (lineS s) = s ∧ bestAt X (lineS s) = 1 := by
  have hb : bestB X (lineS s) = true := by simp [bestB, hX, isS_line s hs hm]
  unfold bestIs bestV bestAt
  rw [hb]
  exact ⟨rfl, readV_line s hs hm, rfl⟩
theorem best_both (s t : List Int) (hs : s.length = 4) (hm : mayS s = true) (ht : t.length = 4) (hn : mayS t = true) :
    bestIs (lineS s) (lineS t) = true ∧ bestV (lineS s) (lineS t) = (if t.getD 0 0 > s.getD 0 0 then t else s) ∧ bestAt (lineS s) (lineS t) = if t.getD 0 0 > s.getD 0 0 then 1 else 0 := by
  have hb : bestB (lineS s) (lineS t) = decide (t.getD 0 0 > s.getD 0 0) := by
    unfold bestB
    rw [isS_line s hs hm, isS_line t ht hn, readV_line s hs hm, readV_line t ht hn]; simp
  unfold bestIs bestV bestAt
  rw [hb, readV_line s hs hm, readV_line t ht hn, isS_line s hs hm]
  by_cases h : t.getD 0 0 > s.getD 0 0
  · simp only [h, decide_true, if_true]; exact ⟨trivial, trivial, trivial⟩
  · simp only [h, decide_false, if_false]; exact ⟨by simp, by simp, by simp⟩
/-- What SuperLasts asks of what was found. -/
theorem lasts (s t : List Int) (hs : s.length = 4) (ht : t.length = 4) (A : Mm) (hA : A = Mm.new 64 fun _ _ => 0) (z : Int) (keep : List Int) (hE : A.writeE 0 0 s = 0) (hE2 : ((A.writeZ 0 0 s).fused z).writeE 3 1 t ≠ 1) :
    (((A.writeZ 0 0 s).fused z).writeZ 3 1 t |>.crash keep).findE = 0 ∧
    (((((A.writeZ 0 0 s).fused z).writeZ 3 1 t |>.crash keep).findV = s ∧ (((A.writeZ 0 0 s).fused z).writeZ 3 1 t |>.crash keep).findAt = 0 ∧ (((A.writeZ 0 0 s).fused z).writeE 3 1 t = 0 → ¬ t.getD 0 0 > s.getD 0 0)) ∨
     ((((A.writeZ 0 0 s).fused z).writeZ 3 1 t |>.crash keep).findV = t ∧ (((A.writeZ 0 0 s).fused z).writeZ 3 1 t |>.crash keep).findAt = 1 ∧ t.getD 0 0 > s.getD 0 0)) := by
  have hok : okW 0 s = true := by
    cases h : okW 0 s
    · rw [show A.writeE 0 0 s = 1 by simp [Mm.writeE, h]] at hE; simp at hE
    · rfl
  have hm : mayS s = true := by simpa [okW] using hok
  have h0 : ∀ i, (A.l i).t = [] := fun i => by rw [hA]; rfl
  have hn : 64 ≤ A.n := by rw [hA]; exact Nat.le_refl _
  have w1 := wrote A h0 hn 0 (by decide) 0 0 rfl (by decide) s hm
  have hk1 : ((A.writeZ 0 0 s).l 0).s = runS (stW (lineS s) 8) (A.l 0).s ∧ ((A.writeZ 0 0 s).l 0).t = [] := by
    rcases w1.w with ⟨m, -, -, -, h⟩ | h
    · exact absurd hE h
    · exact h
  have hn1 : 64 ≤ (A.writeZ 0 0 s).n := by rw [writeZ_n]; exact hn
  have ho1 := w1.o 1 (by decide)
  have hA1 : (A.l 1).s 7 = 0 := by rw [hA]; rfl
  have ht1 : ∀ i, ((A.writeZ 0 0 s).l i).t = [] := fun i => by
    by_cases h : i = 0
    · rw [h]; exact hk1.2
    · exact (w1.o i h).2
  have hok2 : okW 1 t = true := by
    cases h : okW 1 t
    · exact absurd (show ((A.writeZ 0 0 s).fused z).writeE 3 1 t = 1 by simp [Mm.writeE, h]) hE2
    · rfl
  have hm2 : mayS t = true := by simpa [okW] using hok2
  clear w1 hE hE2 hok hok2
  generalize A.writeZ 0 0 s = B at *
  have hB : ∀ i, ((B.fused z).l i).t = [] := ht1
  have w2 := wrote (B.fused z) hB hn1 3 (by decide) 1 1 rfl (by decide) t hm2
  have hs0 : ((B.fused z).l 0).s = runS (stW (lineS s) 8) (A.l 0).s := hk1.1
  have hs1 : ((B.fused z).l 1).s 7 = 0 := by show (B.l 1).s 7 = 0; rw [ho1.1]; exact hA1
  generalize (B.fused z).writeE 3 1 t = E at *
  generalize B.fused z = D at *
  generalize D.writeZ 3 1 t = P at *
  have r0 : rowOf ((P.crash keep).l 0).has = lineS s := by
    rw [has_sure (crash_t P keep 0), crash_sure P keep 0 (w2.o 0 (by decide)).2, (w2.o 0 (by decide)).1, hs0]
    exact row_eight _ (lineS_len s) _
  have r1 : (isS (rowOf ((P.crash keep).l 1).has) = false ∧ E ≠ 0) ∨ rowOf ((P.crash keep).l 1).has = lineS t := by
    rw [has_sure (crash_t P keep 1)]
    rcases w2.w with ⟨m, hm9, h1, h2, h3⟩ | ⟨h1, h2⟩
    · obtain ⟨q, hq, e⟩ := crash_s P keep 1
      rw [e, h1, h2, List.take_take]
      rw [h2, List.length_take, stW_len] at hq
      by_cases h9 : min q m ≤ 8
      · exact Or.inl ⟨row_less _ _ _ hs1 h9, h3⟩
      · right
        rw [show min q m = 8 + 1 by omega, stW_take _ 8 8 (Nat.le_refl _)]
        exact row_eight _ (lineS_len t) _
    · right
      rw [crash_sure P keep 1 h2, h1]
      exact row_eight _ (lineS_len t) _
  have hon : (P.crash keep).on = true := rfl
  generalize P.crash keep = C at *
  unfold Mm.findE Mm.findV Mm.findAt Mm.bestM
  rw [hon, r0]
  rcases r1 with ⟨r1, r2⟩ | r1
  · obtain ⟨b1, b2, b3⟩ := best_one s hs hm _ r1
    rw [b1, b2, b3]
    exact ⟨by simp, Or.inl ⟨by simp, by simp, fun h => absurd h r2⟩⟩
  · obtain ⟨b1, b2, b3⟩ := best_both s t hs hm ht hm2
    rw [r1, b1, b2, b3]
    by_cases h : t.getD 0 0 > s.getD 0 0
    · simp only [h, if_true]; exact ⟨by simp, Or.inr ⟨by simp, by simp, trivial⟩⟩
    · simp only [h, if_false]; exact ⟨by simp, Or.inl ⟨by simp, by simp, fun _ => by simp⟩⟩

end Go.Proofs.YtiafhcgaikapcaaGreat
