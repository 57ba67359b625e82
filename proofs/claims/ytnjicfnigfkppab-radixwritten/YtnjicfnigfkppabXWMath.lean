
/-
  A table that is written, in plain mathematics: its entries may be, its leaves' and its root's lines are what is loaded, no line is named twice.
-/
import Derived.Test.YtnjicfnigfkppabXDLoad
namespace Go.Proofs.Ytnjicfnigfkppab
open Go.RowKit
set_option linter.unusedVariables false

/-- What is left of a number, without its sign. -/
def absM (x m : Int) : Int := if x.tmod m < 0 then -(x.tmod m) else x.tmod m
theorem absM_bd (x m : Int) (h : 0 < m) : 0 ≤ absM x m ∧ absM x m < m := by
  unfold absM
  have h1 := Int.tmod_lt_of_pos x h
  have h2 := Int.lt_tmod_of_pos x h
  split <;> omega
def enW (ks vs : List Int) (i : Nat) : En := ⟨absM (ks.getD i 0) 5, absM (vs.getD i 0) 1000, if absM (ks.getD i 0) 5 = 0 then 0 else 30 + (i : Int)⟩
theorem enW_may (ks vs : List Int) (i : Nat) (hi : i < 49) : mayN (enW ks vs i) = true := by
  have h1 := absM_bd (ks.getD i 0) 5 (by omega)
  have h2 := absM_bd (vs.getD i 0) 1000 (by omega)
  rw [mayN_iff]
  unfold enW
  simp only
  split <;> omega
def tabW (ks vs : List Int) : List Int := rowE 49 (enW ks vs)
theorem tabW_len (ks vs : List Int) : (tabW ks vs).length = 147 := rowE_len 49 _
theorem partW_at (ks vs : List Int) (k i : Nat) (hk : k < 7) (hi : i < 7) : enAt (partT (tabW ks vs) k) i = enW ks vs (7 * k + i) := by
  rw [partT_at _ _ _ hi]
  exact rowE_at 49 _ _ (by omega)
theorem partW_may (ks vs : List Int) (k : Nat) (hk : k < 7) : mayX (partT (tabW ks vs) k) = true := by
  rw [mayX_iff]
  intro i hi
  rw [partW_at ks vs k i hk hi]
  exact enW_may ks vs _ (by omega)
def ns7 : List Int := tab7 fun k => 20 + (k : Int)
theorem ns7_may : mayT ns7 = true := by decide
theorem leafW (ks vs : List Int) (k : Nat) (hk : k < 7) : leafKV (tabW ks vs) (k : Int) = leafS (partT (tabW ks vs) k) ∧ leafKE (tabW ks vs) (k : Int) = 0 := by
  have hp := partW_may ks vs k hk
  have h07 : (0 : Int) ≤ (k : Int) ∧ (k : Int) < 7 := by omega
  constructor
  · unfold leafKV leafV
    rw [if_pos h07, Int.toNat_natCast, if_pos hp]
  · unfold leafKE leafE
    rw [if_pos h07, Int.toNat_natCast, if_pos hp]
/-- The lines of the memory. -/
def sW (ks vs : List Int) : Nat → Nat → Int := fun i j =>
  if 20 ≤ i ∧ i < 27 then (leafS (partT (tabW ks vs) (i - 20))).getD j 0 else if i = 27 then (rootS ns7).getD j 0 else 0
def memW (ks vs : List Int) : Mm := Mm.new 100 (sW ks vs)
theorem line_of (ks vs : List Int) (i : Nat) (l : List Int) (hl : l.length = 8) (h : ∀ j, sW ks vs i j = l.getD j 0) : lineA (memW ks vs) i = l := by
  unfold lineA
  refine list_ext0 (n := 8) (by simp) hl fun m hm => ?_
  rw [List.getD_eq_getElem?_getD, List.getElem?_map, List.getElem?_range hm]
  exact h m
theorem line_leaf (ks vs : List Int) (k : Nat) (hk : k < 7) : lineA (memW ks vs) (20 + k) = leafS (partT (tabW ks vs) k) :=
  line_of ks vs _ _ (lineG_len _) fun j => by
    unfold sW
    rw [if_pos (by omega), show 20 + k - 20 = k by omega]
theorem line_root (ks vs : List Int) : lineA (memW ks vs) 27 = rootS ns7 :=
  line_of ks vs _ _ (lineG_len _) fun j => by
    unfold sW
    rw [if_neg (by omega), if_pos rfl]
theorem lsW (ks vs : List Int) : isT (lineA (memW ks vs) (27 : Int).toNat) = true ∧ lsA (memW ks vs) 27 = ns7 := by
  obtain ⟨h1, h2⟩ := root_back ns7 (tab7_len _) ns7_may
  have e : lineA (memW ks vs) (27 : Int).toNat = rootS ns7 := line_root ks vs
  unfold lsA
  rw [e]
  refine ⟨h1, ?_⟩
  unfold readTV at h2
  rw [if_pos h1] at h2
  exact h2
theorem leafAW (ks vs : List Int) (k : Nat) (hk : k < 7) : leafA (memW ks vs) 27 k = leafS (partT (tabW ks vs) k) := by
  unfold leafA
  rw [(lsW ks vs).2]
  unfold ns7
  rw [tab7_get _ k hk, show (20 + (k : Int)).toNat = 20 + k by omega]
  exact line_leaf ks vs k hk
theorem readW (ks vs : List Int) (k : Nat) (hk : k < 7) : isX (leafA (memW ks vs) 27 k) = true ∧ readX (leafA (memW ks vs) 27 k) = partT (tabW ks vs) k := by
  obtain ⟨h1, h2⟩ := leaf_back (partT (tabW ks vs) k) (partT_len _ _) (partW_may ks vs k hk)
  rw [leafAW ks vs k hk]
  refine ⟨h1, ?_⟩
  unfold readXV at h2
  rw [if_pos h1] at h2
  exact h2
theorem tabAW (ks vs : List Int) : tabA (memW ks vs) 27 = tabW ks vs := by
  unfold tabA tabW
  refine rowE_ext fun i hi => ?_
  unfold tabF
  rw [(readW ks vs (i / 7) (by omega)).2, partW_at ks vs _ _ (by omega) (by omega), show 7 * (i / 7) + i % 7 = i by omega]
theorem objW (ks vs : List Int) (k : Nat) (hk : k < 7) : ∀ j, j ≤ 7 → (objTo (partT (tabW ks vs) k) j).Nodup ∧ ∀ z ∈ objTo (partT (tabW ks vs) k) j, 30 + 7 * (k : Int) ≤ z ∧ z < 30 + 7 * (k : Int) + (j : Int)
  | 0, _ => by simp [objTo]
  | j + 1, hj => by
    obtain ⟨h1, h2⟩ := objW ks vs k hk j (by omega)
    rw [objTo]
    have hen := partW_at ks vs k j hk (by omega)
    by_cases h0 : (enAt (partT (tabW ks vs) k) j).k = 0
    · rw [if_pos h0, List.append_nil]
      exact ⟨h1, fun z hz => by have := h2 z hz; omega⟩
    · rw [if_neg h0]
      have hl : (enAt (partT (tabW ks vs) k) j).l = 30 + (7 * (k : Int) + (j : Int)) := by
        rw [hen] at h0 ⊢
        unfold enW at h0 ⊢
        simp only at h0 ⊢
        rw [if_neg h0]; omega
      rw [hl]
      refine ⟨List.nodup_append.2 ⟨h1, by simp, fun a ha b hb e => ?_⟩, fun z hz => ?_⟩
      · simp at hb
        have := h2 a ha
        omega
      · rcases List.mem_append.1 hz with hz | hz
        · have := h2 z hz; omega
        · simp at hz; omega
theorem namesW (ks vs : List Int) : ∀ k, k ≤ 7 → (nsTo (memW ks vs) 27 k).Nodup ∧ ∀ z ∈ nsTo (memW ks vs) 27 k, z = 27 ∨ (20 ≤ z ∧ z < 20 + (k : Int)) ∨ (30 ≤ z ∧ z < 30 + 7 * (k : Int))
  | 0, _ => by simp [nsTo]
  | k + 1, hk => by
    obtain ⟨h1, h2⟩ := namesW ks vs k (by omega)
    have hz : (lsA (memW ks vs) 27).getD k 0 = 20 + (k : Int) := by rw [(lsW ks vs).2]; unfold ns7; rw [tab7_get _ k (by omega)]
    have hx : readX (lineA (memW ks vs) ((lsA (memW ks vs) 27).getD k 0).toNat) = partT (tabW ks vs) k := (readW ks vs k (by omega)).2
    obtain ⟨o1, o2⟩ := objW ks vs k (by omega) 7 (by omega)
    rw [nsTo, hx, hz]
    have n1 : (nsTo (memW ks vs) 27 k ++ [20 + (k : Int)]).Nodup := List.nodup_append.2 ⟨h1, by simp, fun a ha b hb e => by
      simp at hb
      have := h2 a ha
      omega⟩
    refine ⟨List.nodup_append.2 ⟨n1, o1, fun a ha b hb e => ?_⟩, fun z hz => ?_⟩
    · have q := o2 b hb
      rcases List.mem_append.1 ha with ha | ha
      · have := h2 a ha; omega
      · simp at ha; omega
    · rcases List.mem_append.1 hz with hz | hz
      · rcases List.mem_append.1 hz with hz | hz
        · have := h2 z hz; omega
        · simp at hz; omega
      · have := o2 z hz; omega
theorem loadW (ks vs : List Int) : loadB (memW ks vs) 20 27 = true := by
  rw [loadB_iff]
  have hn : (memW ks vs).n = 100 := rfl
  rw [hn]
  refine ⟨⟨by decide, (lsW ks vs).1⟩, fun k hk => (readW ks vs k hk).1, ?_⟩
  obtain ⟨h1, h2⟩ := namesW ks vs 7 (by omega)
  rw [okN_iff]
  refine ⟨fun z hz => ?_, h1⟩
  have := h2 z hz
  show 0 ≤ z ∧ 20 ≤ z ∧ z < ((100 : Nat) : Int)
  omega
theorem loadW21 (ks vs : List Int) : loadB (memW ks vs) 21 27 = false := bool_not fun hh => by
  have h := ((loadB_iff _ _ _).1 hh).2.2
  obtain ⟨r, hr⟩ := nsTo_seven (memW ks vs) 27 1 (by omega)
  rw [hr] at h
  have hz : (lsA (memW ks vs) 27).getD 0 0 = 20 := by rw [(lsW ks vs).2]; decide
  have := okN_mem (okN_prefix h) (z := 20) (by rw [nsTo, hz]; simp)
  omega
theorem ldW (ks vs : List Int) : (ldT (memW ks vs) 20 27 = tabW ks vs ∧ ldL (memW ks vs) 20 27 = ns7 ∧ ldE (memW ks vs) 20 27 = 0) ∧ ldE (memW ks vs) 21 27 = 21 := by
  have hon : (memW ks vs).on = true := rfl
  unfold ldT ldL ldE
  rw [loadW, loadW21, hon]
  simp [tabAW, (lsW ks vs).2]
theorem sW_in (ks vs : List Int) (i j : Nat) : InU (sW ks vs i j) := by
  have hz : InU 0 := ⟨by decide, by decide⟩
  have key : ∀ (l : List Int), (∀ z ∈ l, (Lit.int .u64 z).wf = true) → InU (l.getD j 0) := fun l hl => by
    by_cases h : j < l.length
    · rw [List.getD_eq_getElem?_getD, List.getElem?_eq_getElem h]
      have := hl l[j] (List.getElem_mem h)
      simp [Lit.wf, IntKind.min, IntKind.max, IntKind.signed, IntKind.bits] at this
      exact ⟨this.1, by simpa using this.2⟩
    · rw [List.getD_eq_getElem?_getD, List.getElem?_eq_none (by omega)]; exact hz
  unfold sW
  split
  · rename_i h
    refine key _ (sealOf_wf _ (wUp_wf _ _ fun m hm _ => ?_))
    have := wordN_bd _ ((mayX_iff _).1 (partW_may ks vs (i - 20) (by omega)) m hm)
    omega
  · split
    · refine key _ (sealOf_wf _ (wUp_wf _ _ fun m hm _ => ?_))
      have := (mayT_iff ns7).1 ns7_may m hm
      omega
    · exact hz

end Go.Proofs.Ytnjicfnigfkppab
