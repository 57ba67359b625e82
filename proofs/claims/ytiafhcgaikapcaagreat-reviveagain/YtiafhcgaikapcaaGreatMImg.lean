
/-
  An image whose lines are sure is loaded as it is: frames from L on. No program.
-/
import Derived.Test.YtiafhcgaikapcaaGreatMSure
import Derived.Test.YtiafhcgaikapcaaGreatPkDir
namespace Go.Proofs.YtiafhcgaikapcaaGreat
set_option linter.unusedVariables false

theorem lineA_su {A : Mm} {y : Nat} {l : List Int} (hl : l.length = 8) (h : LSu (A.l y) (listF l)) : lineA A y = l := by
  unfold lineA
  refine list_ext0 (n := 8) (by simp) hl fun m hm => ?_
  rw [List.getD_eq_getElem?_getD, List.getElem?_map, List.getElem?_range hm]
  exact h.hs m hm
theorem crash_su {A : Mm} {y : Nat} {c : Nat → Int} (h : LSu (A.l y) c) (keep : List Int) : LSu ((A.crash keep).l y) c :=
  ⟨rfl, fun j hj => by rw [crash_sure A keep y h.1]; exact h.2 j hj⟩
structure ImL (L N : Nat) (A : Mm) (tb : Nat → En) (d : Nat → Int) : Prop where
  lf : ∀ k, k < 7 → LSu (A.l (d k).toNat) (listF (leafS (partT (rowE 49 tb) k)))
  rt : LSu (A.l (d 7).toNat) (listF (rootS (tab7 d)))
  may : ∀ i, i < 49 → mayN (tb i) = true
  db : ∀ i, i < 8 → (L : Int) ≤ d i ∧ d i < N
  te : ∀ i, i < 49 → (tb i).k ≠ 0 → (L : Int) ≤ (tb i).l ∧ (tb i).l < N
  dd : ∀ i j, i < 8 → j < 8 → i ≠ j → d i ≠ d j
  dt : ∀ i j, i < 8 → j < 49 → (tb j).k ≠ 0 → d i ≠ (tb j).l
  tt : ∀ i j, i < 49 → j < 49 → i ≠ j → (tb i).k ≠ 0 → (tb j).k ≠ 0 → (tb i).l ≠ (tb j).l
section
variable {L N : Nat} {A : Mm} {tb : Nat → En} {d : Nat → Int}
theorem ImL.mayX (h : ImL L N A tb d) (k : Nat) (hk : k < 7) : mayX (partT (rowE 49 tb) k) = true := by
  rw [mayX_iff]
  intro i hi
  rw [partT_at _ _ _ hi, rowE_at 49 _ _ (by omega)]
  exact h.may _ (by omega)
theorem ImL.mayT (h : ImL L N A tb d) (hN : N ≤ 1024) : mayT (tab7 d) = true := by
  rw [mayT_iff]
  intro i hi
  rw [tab7_get _ _ hi]
  have := h.db i (by omega)
  omega
theorem ImL.root (h : ImL L N A tb d) (hN : N ≤ 1024) : isT (lineA A (d 7).toNat) = true ∧ lsA A (d 7) = tab7 d := by
  have e : lineA A (d 7).toNat = rootS (tab7 d) := lineA_su (lineG_len _) h.rt
  obtain ⟨h1, h2⟩ := root_back (tab7 d) (tab7_len _) (h.mayT hN)
  unfold lsA
  rw [e]
  refine ⟨h1, ?_⟩
  unfold readTV at h2
  rw [if_pos h1] at h2
  exact h2
theorem ImL.leaf (h : ImL L N A tb d) (hN : N ≤ 1024) (k : Nat) (hk : k < 7) : isX (leafA A (d 7) k) = true ∧ readX (leafA A (d 7) k) = partT (rowE 49 tb) k := by
  have e : leafA A (d 7) k = leafS (partT (rowE 49 tb) k) := by
    unfold leafA
    rw [(h.root hN).2, tab7_get _ _ hk]
    exact lineA_su (lineG_len _) (h.lf k hk)
  obtain ⟨h1, h2⟩ := leaf_back (partT (rowE 49 tb) k) (partT_len _ _) (h.mayX k hk)
  rw [e]
  refine ⟨h1, ?_⟩
  unfold readXV at h2
  rw [if_pos h1] at h2
  exact h2
theorem ImL.tab (h : ImL L N A tb d) (hN : N ≤ 1024) : tabA A (d 7) = rowE 49 tb := by
  unfold tabA
  refine rowE_ext fun i hi => ?_
  unfold tabF
  rw [(h.leaf hN (i / 7) (by omega)).2, partT_at _ _ _ (by omega), show 7 * (i / 7) + i % 7 = i by omega, rowE_at 49 _ _ hi]
theorem ImL.obj (h : ImL L N A tb d) (k : Nat) (hk : k < 7) : ∀ j, j ≤ 7 → (objTo (partT (rowE 49 tb) k) j).Nodup ∧ ∀ z ∈ objTo (partT (rowE 49 tb) k) j, ∃ i, 7 * k ≤ i ∧ i < 7 * k + j ∧ (tb i).k ≠ 0 ∧ (tb i).l = z
  | 0, _ => by simp [objTo]
  | j + 1, hj => by
    obtain ⟨h1, h2⟩ := h.obj k hk j (by omega)
    rw [objTo]
    have hen : enAt (partT (rowE 49 tb) k) j = tb (7 * k + j) := by rw [partT_at _ _ _ (by omega), rowE_at 49 _ _ (by omega)]
    rw [hen]
    by_cases h0 : (tb (7 * k + j)).k = 0
    · rw [if_pos h0, List.append_nil]
      exact ⟨h1, fun z hz => by obtain ⟨i, a, b, c⟩ := h2 z hz; exact ⟨i, a, by omega, c⟩⟩
    · rw [if_neg h0]
      refine ⟨List.nodup_append.2 ⟨h1, by simp, fun a ha b hb e => ?_⟩, fun z hz => ?_⟩
      · simp at hb
        obtain ⟨i, i1, i2, i3, i4⟩ := h2 a ha
        exact h.tt i (7 * k + j) (by omega) (by omega) (by omega) i3 h0 (by rw [i4, e, hb])
      · rcases List.mem_append.1 hz with hz | hz
        · obtain ⟨i, a, b, c⟩ := h2 z hz; exact ⟨i, a, by omega, c⟩
        · simp at hz; exact ⟨7 * k + j, by omega, by omega, h0, hz.symm⟩
theorem ImL.names (h : ImL L N A tb d) (hN : N ≤ 1024) : ∀ k, k ≤ 7 → (nsTo A (d 7) k).Nodup ∧ ∀ z ∈ nsTo A (d 7) k, z = d 7 ∨ (∃ i, i < k ∧ z = d i) ∨ (∃ i, i < 7 * k ∧ (tb i).k ≠ 0 ∧ (tb i).l = z)
  | 0, _ => by simp [nsTo]
  | k + 1, hk => by
    obtain ⟨h1, h2⟩ := h.names hN k (by omega)
    have hz : (lsA A (d 7)).getD k 0 = d k := by rw [(h.root hN).2, tab7_get _ k (by omega)]
    have hx : readX (lineA A ((lsA A (d 7)).getD k 0).toNat) = partT (rowE 49 tb) k := (h.leaf hN k (by omega)).2
    obtain ⟨o1, o2⟩ := h.obj k (by omega) 7 (by omega)
    rw [nsTo, hx, hz]
    have n1 : (nsTo A (d 7) k ++ [d k]).Nodup := List.nodup_append.2 ⟨h1, by simp, fun a ha b hb e => by
      simp at hb
      subst hb
      rcases h2 a ha with q | ⟨i, i1, i2⟩ | ⟨i, i1, i2, i3⟩
      · exact h.dd 7 k (by decide) (by omega) (by omega) (q.symm.trans e)
      · exact h.dd i k (by omega) (by omega) (by omega) (i2.symm.trans e)
      · exact h.dt k i (by omega) (by omega) i2 (e.symm.trans i3.symm)⟩
    refine ⟨List.nodup_append.2 ⟨n1, o1, fun a ha b hb e => ?_⟩, fun z hz => ?_⟩
    · obtain ⟨q, q1, q2, q3, q4⟩ := o2 b hb
      rcases List.mem_append.1 ha with ha | ha
      · rcases h2 a ha with r | ⟨i, i1, i2⟩ | ⟨i, i1, i2, i3⟩
        · exact h.dt 7 q (by decide) (by omega) q3 (by rw [q4, ← e, r])
        · exact h.dt i q (by omega) (by omega) q3 (by rw [q4, ← e, i2])
        · exact h.tt i q (by omega) (by omega) (by omega) i2 q3 (by rw [q4, i3, e])
      · simp at ha
        exact h.dt k q (by omega) (by omega) q3 (by rw [q4, ← e, ha])
    · rcases List.mem_append.1 hz with hz | hz
      · rcases List.mem_append.1 hz with hz | hz
        · rcases h2 z hz with r | ⟨i, i1, i2⟩ | ⟨i, i1, i2⟩
          · exact Or.inl r
          · exact Or.inr (Or.inl ⟨i, by omega, i2⟩)
          · exact Or.inr (Or.inr ⟨i, by omega, i2⟩)
        · simp at hz; exact Or.inr (Or.inl ⟨k, by omega, hz⟩)
      · obtain ⟨q, q1, q2, q3⟩ := o2 z hz
        exact Or.inr (Or.inr ⟨q, by omega, q3⟩)
/-- An image whose lines are there is loaded as it is. -/
theorem ImL.load (h : ImL L N A tb d) (hN : N ≤ 1024) (hn : A.n = N) (hon : A.on = true) : ldT A (L : Int) (d 7) = rowE 49 tb ∧ ldE A (L : Int) (d 7) = 0 := by
  have hB : loadB A (L : Int) (d 7) = true := by
    rw [loadB_iff, hn]
    have h7 := h.db 7 (by decide)
    refine ⟨⟨?_, (h.root hN).1⟩, fun k hk => (h.leaf hN k hk).1, ?_⟩
    · rw [okN_iff]
      refine ⟨fun z hz => ?_, by simp⟩
      simp at hz
      omega
    · obtain ⟨h1, h2⟩ := h.names hN 7 (by omega)
      rw [okN_iff]
      refine ⟨fun z hz => ?_, h1⟩
      rcases h2 z hz with r | ⟨i, i1, i2⟩ | ⟨i, i1, i2, i3⟩
      · omega
      · have := h.db i (by omega); omega
      · have := h.te i (by omega) i2; omega
  unfold ldT ldE
  rw [if_pos ⟨hon, hB⟩, if_pos hon, if_pos hB]
  exact ⟨h.tab hN, rfl⟩
theorem ImL.crash (h : ImL L N A tb d) (keep : List Int)   : ImL L N (A.crash keep) tb d :=
  ⟨fun k hk => crash_su (h.lf k hk) keep, crash_su h.rt keep, h.may, h.db, h.te, h.dd, h.dt, h.tt⟩
end


end Go.Proofs.YtiafhcgaikapcaaGreat
