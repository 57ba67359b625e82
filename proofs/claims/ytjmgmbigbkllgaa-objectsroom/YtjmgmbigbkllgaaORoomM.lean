
/-
  What ObjectsRoom rests on: Sets, one behind the other, take as many frames as there are different objects whose line is not their own. No program.
-/
import Derived.Test.YtjmgmbigbkllgaaOInv
import Derived.Test.YtjmgmbigbkllgaaORoom
namespace Go.Proofs.Ytjmgmbigbkllgaa
set_option linter.unusedVariables false

theorem needTo_mono (S : Sto) (l : List Int) {i j : Nat} (h : i ≤ j) : S.needTo l i ≤ S.needTo l j := by
  obtain ⟨d, rfl⟩ := Nat.le.dest h
  induction d with
  | zero => exact Nat.le_refl _
  | succ d ih =>
    have := needTo_next S l (i + d)
    rw [show i + (d + 1) = i + d + 1 by omega, this]
    have := ih (by omega)
    omega
/-- Behind j Sets: S0 is what there was ahead, L how many frames were left. -/
structure RInv (S0 S : Sto) (A : Mm) (l : List Int) (j L : Nat) (fine : Bool) : Prop where
  inv : Inv S
  ok : S.ok
  calm : Calm A
  hn : S.F.hi ≤ A.n
  b : S.b = S0.b
  k : S.k = S0.k
  found : ∀ k : Nat, k < 12 → S.findE (k : Int) = 0
  open_ : ∀ k : Nat, 12 ≤ k → k < 49 → opB (S.w k) = true
  yes : fine = true → (∀ k : Nat, k < 12 → S.own (S.line (k : Int)) = (l.take j).contains (k : Int)) ∧ S.F.left + S0.needTo l j = L
  no : fine = false → S.F.allocE ≠ 0 ∧ L < S0.needTo l l.length
theorem need_same {S0 : Sto} {l : List Int} {j k : Nat} (hj : j < l.length) (hk : l.getD j 0 = (k : Int)) (hc : (l.take j).contains (k : Int) = true) : S0.needTo l (j + 1) = S0.needTo l j := by
  rw [needTo_next, hk, hc]; simp
theorem need_new {S0 : Sto} {l : List Int} {j k : Nat} (hj : j < l.length) (hk : l.getD j 0 = (k : Int)) (hw : S0.wants (k : Int) = true) (hc : (l.take j).contains (k : Int) = false) : S0.needTo l (j + 1) = S0.needTo l j + 1 := by
  rw [needTo_next, hk, hw, hc]; simp
theorem contains_same {l : List Int} {j k : Nat} (hj : j < l.length) (hk : l.getD j 0 = (k : Int)) (hc : (l.take j).contains (k : Int) = true) (i : Nat) : (l.take (j + 1)).contains (i : Int) = (l.take j).contains (i : Int) := by
  rw [take_contains l j hj, hk]
  by_cases e : i = k
  · subst e; rw [hc]; rfl
  · rw [show ((k : Int) == (i : Int)) = false by simp; omega, Bool.or_false]
/-- A frame that is free is no line of the base's, nor of what is marked. -/
theorem own_new {S : Sto} (h : Inv S) (ha : S.F.allocE = 0) : S.own S.F.allocV = true := by
  rcases Bool.eq_false_or_eq_true (S.own S.F.allocV) with e | e
  · exact e
  · exfalso
    have hs : S.shared S.F.allocV := by
      unfold Sto.own at e
      unfold Sto.shared
      rcases Bool.eq_false_or_eq_true (hasB S.b S.F.allocV) with h1 | h1
      · exact Or.inl h1
      · rcases Bool.eq_false_or_eq_true (hasB S.k S.F.allocV) with h2 | h2
        · exact Or.inr h2
        · rw [h1, h2] at e; cases e
    exact tk_ne ha (shared_tk h hs) rfl
theorem own_eq {S T : Sto} (hb : S.b = T.b) (hk : S.k = T.k) (z : Int) : S.own z = T.own z := by unfold Sto.own; rw [hb, hk]
theorem RInv.again {S0 S : Sto} {A : Mm} {l : List Int} {j L k : Nat} (h : RInv S0 S A l j L true) (hj : j < l.length) (hk : l.getD j 0 = (k : Int)) (h12 : k < 12) (hc : (l.take j).contains (k : Int) = true) :
    S.setE A (k : Int) 0 1 = 0 ∧ RInv S0 (S.setS A (k : Int) 0 1) (S.setM A (k : Int) 0 1) l (j + 1) L true := by
  have hf := h.found k h12
  have ho : S.own (S.line (k : Int)) = true := by rw [(h.yes rfl).1 k h12]; exact hc
  have hkk := (findE_ok hf).2.2
  rw [Int.toNat_natCast] at hkk
  have hz : A.isZ (S.line (k : Int)) := by
    have := (h.inv.tw k (by omega) hkk).1
    unfold Sto.line
    rw [Int.toNat_natCast]
    exact isZ_isF h.hn this
  obtain ⟨e1, e2, e3⟩ := set_again (S := S) (A := A) (z := (k : Int)) (q := 0) h.calm ⟨by decide, by decide⟩ hf ho hz 1
  refine ⟨e1, ?_⟩
  rw [e2, e3]
  refine ⟨h.inv, h.ok, calm_store h.calm _ _ _, by rw [storeZ_n]; exact h.hn, h.b, h.k, h.found, h.open_, fun _ => ⟨fun i hi => ?_, ?_⟩, fun e => by cases e⟩
  · rw [contains_same hj hk hc]; exact (h.yes rfl).1 i hi
  · rw [need_same hj hk hc]; exact (h.yes rfl).2
theorem RInv.out {S0 S : Sto} {A : Mm} {l : List Int} {j L k : Nat} (h : RInv S0 S A l j L true) (hj : j < l.length) (hk : l.getD j 0 = (k : Int)) (h12 : k < 12) (hw : S0.wants (k : Int) = true) (hc : (l.take j).contains (k : Int) = false) (ha : S.F.allocE ≠ 0) :
    S.setE A (k : Int) 0 1 = 10 ∧ RInv S0 (S.setS A (k : Int) 0 1) (S.setM A (k : Int) 0 1) l (j + 1) L false := by
  have hf := h.found k h12
  have ho : S.own (S.line (k : Int)) = false := by rw [(h.yes rfl).1 k h12]; exact hc
  obtain ⟨e1, e2, e3⟩ := set_out (S := S) (A := A) (z := (k : Int)) (q := 0) ⟨by decide, by decide⟩ hf ho ha 1
  refine ⟨e1, ?_⟩
  rw [e2, e3]
  refine ⟨h.inv, h.ok, h.calm, h.hn, h.b, h.k, h.found, h.open_, fun e => (by cases e), fun _ => ⟨ha, ?_⟩⟩
  have h1 := (h.yes rfl).2
  rw [left_none ha] at h1
  have h2 := need_new (S0 := S0) hj hk hw hc
  have h3 := needTo_mono S0 l (show j + 1 ≤ l.length by omega)
  omega

theorem RInv.first {S0 S : Sto} {A : Mm} {l : List Int} {j L k : Nat} (h : RInv S0 S A l j L true) (hj : j < l.length) (hk : l.getD j 0 = (k : Int)) (h12 : k < 12) (hw : S0.wants (k : Int) = true) (hc : (l.take j).contains (k : Int) = false) (ha : S.F.allocE = 0) :
    S.setE A (k : Int) 0 1 = 0 ∧ RInv S0 (S.setS A (k : Int) 0 1) (S.setM A (k : Int) 0 1) l (j + 1) L true := by
  have hf := h.found k h12
  have ho : S.own (S.line (k : Int)) = false := by rw [(h.yes rfl).1 k h12]; exact hc
  have hkk := (findE_ok hf).2.2
  rw [Int.toNat_natCast] at hkk
  have hz : A.isZ (S.line (k : Int)) := by
    have := (h.inv.tw k (by omega) hkk).1
    unfold Sto.line
    rw [Int.toNat_natCast]
    exact isZ_isF h.hn this
  obtain ⟨e1, e2, e3⟩ := set_first (S := S) (A := A) (z := (k : Int)) (q := 0) h.calm ⟨by decide, by decide⟩ hf ho hz ha (isZ_isF h.hn (isF_new ha)) 1
  have hcalm := (keep_set h.inv h.calm h.hn (k : Int) 0 1).1
  have hinv := inv_set h.inv A (k : Int) 0 1
  have hok := setS_ok h.ok A (k : Int) 0 1
  have hhn : (S.setS A (k : Int) 0 1).F.hi ≤ (S.setM A (k : Int) 0 1).n := by rw [setM_n, (lohi_set S A (k : Int) 0 1).2]; exact h.hn
  have hown := own_new h.inv ha
  rw [Int.toNat_natCast] at e2
  refine ⟨e1, ?_⟩
  rw [e2] at hinv hok hhn ⊢
  have hw2 : ∀ i : Nat, ((S.took.withW k (moved (S.w k) S.F.allocV)).w i) = if i = k then moved (S.w k) S.F.allocV else S.w i := fun i => by
    show upd S.w k _ i = _
    by_cases e : i = k
    · subst e; rw [upd_same, if_pos rfl]
    · rw [upd_other _ _ _ _ e, if_neg e]
  have hb2 : (S.took.withW k (moved (S.w k) S.F.allocV)).b = S.b := rfl
  have hk2 : (S.took.withW k (moved (S.w k) S.F.allocV)).k = S.k := rfl
  have hF2 : (S.took.withW k (moved (S.w k) S.F.allocV)).F = S.F.allocA := rfl
  have hown2 : ∀ z, (S.took.withW k (moved (S.w k) S.F.allocV)).own z = S.own z := fun z => own_eq hb2 hk2 z
  generalize S.took.withW k (moved (S.w k) S.F.allocV) = T at *
  refine ⟨hinv, hok, hcalm, hhn, hb2.trans h.b, hk2.trans h.k, fun i hi => ?_, fun i h1 h2 => ?_, fun _ => ⟨fun i hi => ?_, ?_⟩, fun e => by cases e⟩
  · have hfi := (findE_ok (h.found i hi)).2.2
    rw [Int.toNat_natCast] at hfi
    unfold Sto.findE
    rw [if_pos ⟨by omega, by omega⟩, Int.toNat_natCast, hw2]
    by_cases e : i = k
    · subst e; rw [if_pos rfl]; exact if_neg hkk
    · rw [if_neg e]; exact if_neg hfi
  · rw [hw2, if_neg (by omega)]; exact h.open_ i h1 h2
  · rw [hown2, take_contains l j hj, hk]
    unfold Sto.line
    rw [Int.toNat_natCast, hw2]
    by_cases e : i = k
    · subst e
      rw [if_pos rfl]
      show S.own S.F.allocV = _
      rw [hown]; simp
    · rw [if_neg e, show ((k : Int) == (i : Int)) = false by simp; omega, Bool.or_false]
      have := (h.yes rfl).1 i hi
      unfold Sto.line at this
      rw [Int.toNat_natCast] at this
      exact this
  · have h1 := (h.yes rfl).2
    have h2 := need_new (S0 := S0) hj hk hw hc
    have h3 := left_alloc ha
    rw [hF2]
    omega
/-- What one Set does, whichever. -/
theorem RInv.step {S0 S : Sto} {A : Mm} {l : List Int} {j L k : Nat} (h : RInv S0 S A l j L true) (hj : j < l.length) (hk : l.getD j 0 = (k : Int)) (h12 : k < 12) (hw : S0.wants (k : Int) = true) :
    RInv S0 (S.setS A (k : Int) 0 1) (S.setM A (k : Int) 0 1) l (j + 1) L (S.setE A (k : Int) 0 1 == 0) := by
  rcases Bool.eq_false_or_eq_true ((l.take j).contains (k : Int)) with hc | hc
  · obtain ⟨e, q⟩ := h.again hj hk h12 hc
    rw [e]; exact q
  · by_cases ha : S.F.allocE = 0
    · obtain ⟨e, q⟩ := h.first hj hk h12 hw hc ha
      rw [e]; exact q
    · obtain ⟨e, q⟩ := h.out hj hk h12 hw hc ha
      rw [e]; exact q
theorem RInv.skip {S0 S : Sto} {A : Mm} {l : List Int} {j L : Nat} (h : RInv S0 S A l j L false) : RInv S0 S A l (j + 1) L false :=
  ⟨h.inv, h.ok, h.calm, h.hn, h.b, h.k, h.found, h.open_, fun e => (by cases e), h.no⟩
/-- Behind the Sets, and i Makes. -/
structure MInv (S : Sto) (A : Mm) (i need L : Nat) (fine : Bool) : Prop where
  ok : S.ok
  calm : Calm A
  hn : S.F.hi ≤ A.n
  open_ : ∀ k : Nat, 12 + i ≤ k → k < 49 → opB (S.w k) = true
  yes : fine = true → S.F.left + need + i = L
  no : fine = false → S.F.allocE ≠ 0 ∧ L < need + i
theorem RInv.makes {S0 S : Sto} {A : Mm} {l : List Int} {L : Nat} {fine : Bool} (h : RInv S0 S A l l.length L fine) : MInv S A 0 (S0.needTo l l.length) L fine :=
  ⟨h.ok, h.calm, h.hn, fun k h1 h2 => h.open_ k (by omega) h2, fun e => (h.yes e).2, fun e => ⟨(h.no e).1, (h.no e).2⟩⟩
theorem MInv.step {S : Sto} {A : Mm} {i need L : Nat} {fine : Bool} (h : MInv S A i need L fine) (hi : i < 10) : MInv (S.makeS A 1) (S.makeM A 1) (i + 1) need L (fine && (S.makeE A 1 == 0)) := by
  have hx : ∃ p, S.nx = some p ∧ p ≤ 12 + i := by
    cases hq : S.nx with
    | some p =>
      refine ⟨p, rfl, ?_⟩
      rcases Nat.lt_or_ge (12 + i) p with h1 | h1
      · exfalso
        have h2 := List.find?_eq_some_iff_append.1 hq
        obtain ⟨hp, us, vs, hl, hall⟩ := h2
        have hmem : (12 + i) ∈ us := by
          have hlen : us.length = p := by
            have hlt : us.length < 49 := by
              have := congrArg List.length hl
              rw [List.length_range, List.length_append, List.length_cons] at this
              omega
            have hg : (List.range 49)[us.length]? = some p := by rw [hl, List.getElem?_append_right (Nat.le_refl _)]; simp
            rw [List.getElem?_range hlt] at hg
            simpa using hg
          have hlt2 : 12 + i < us.length := by omega
          have hg : (List.range 49)[12 + i]? = us[12 + i]? := by rw [hl, List.getElem?_append_left hlt2]
          rw [List.getElem?_range (by omega)] at hg
          exact List.mem_of_getElem? hg.symm
        have := hall _ hmem
        rw [h.open_ (12 + i) (Nat.le_refl _) (by omega)] at this
        cases this
      · exact h1
    | none =>
      exfalso
      have := List.find?_eq_none.1 hq (12 + i) (List.mem_range.2 (by omega))
      rw [h.open_ (12 + i) (Nat.le_refl _) (by omega)] at this
      exact this rfl
  obtain ⟨p, hp, hple⟩ := hx
  have hm1 : mkB 1 = true := by decide
  have n1 : S.nextE 1 = 0 := by unfold Sto.nextE; rw [if_pos hm1, hp]
  have n2 : S.nextI 1 = (p : Int) := by unfold Sto.nextI; rw [if_pos hm1, hp]
  have hok := makeS_ok h.ok A 1
  have hhn : (S.makeS A 1).F.hi ≤ (S.makeM A 1).n := by rw [makeM_n, (lohi_make S A 1).2]; exact h.hn
  by_cases ha : S.F.allocE = 0
  · obtain ⟨q1, q2, q3, q4⟩ := lay_calm (S := S) (A := A) h.calm ha (isZ_isF h.hn (isF_new ha)) zeroL
    have e1 : S.makeE A 1 = 0 := by unfold Sto.makeE; rw [if_pos n1]; exact q1
    have e2 : S.makeM A 1 = S.layM A zeroL := by unfold Sto.makeM; rw [if_pos n1]
    have e3 : S.makeS A 1 = S.took.withW p ⟨1, S.nextV 1, S.F.allocV⟩ := by unfold Sto.makeS; rw [if_pos n1, if_pos q1, n2, Int.toNat_natCast]
    rw [e1, show ((0 : Int) == 0) = true from rfl, Bool.and_true]
    rw [e3] at hok hhn ⊢
    rw [e2] at hhn ⊢
    refine ⟨hok, q2, hhn, fun k h1 h2 => ?_, fun e => ?_, fun e => ?_⟩
    · show opB (upd S.w p _ k) = true
      rw [upd_other _ _ _ _ (by omega)]; exact h.open_ k (by omega) h2
    · have h1 := h.yes e
      have h3 := left_alloc ha
      show S.F.allocA.left + need + (i + 1) = L
      omega
    · exact absurd ha (h.no e).1
  · obtain ⟨q1, q2, q3⟩ := lay_none (S := S) (A := A) ha zeroL
    have e1 : S.makeE A 1 = 10 := by unfold Sto.makeE; rw [if_pos n1]; exact q1
    have e2 : S.makeM A 1 = A := by unfold Sto.makeM; rw [if_pos n1]; exact q2
    have e3 : S.makeS A 1 = S := by unfold Sto.makeS; rw [if_pos n1, if_neg (by rw [q1]; decide)]; exact q3
    rw [e1, show ((10 : Int) == 0) = false from rfl, Bool.and_false, e2, e3]
    refine ⟨h.ok, h.calm, h.hn, fun k h1 h2 => h.open_ k (by omega) h2, fun e => (by cases e), fun _ => ⟨ha, ?_⟩⟩
    cases fine with
    | true =>
      have h1 := h.yes rfl
      rw [left_none ha] at h1
      omega
    | false => have := (h.no rfl).2; omega
/-- The end: fine, just where there was room. -/
theorem MInv.fine_iff {S : Sto} {A : Mm} {i need L : Nat} {fine : Bool} (h : MInv S A i need L fine) : fine = decide (0 ≤ (i : Int) ∧ (i : Int) ≤ (L : Int) - (need : Int)) := by
  cases fine with
  | true => have := h.yes rfl; exact (decide_eq_true ⟨by omega, by omega⟩).symm
  | false => have := (h.no rfl).2; exact (decide_eq_false (by omega)).symm

end Go.Proofs.Ytjmgmbigbkllgaa
