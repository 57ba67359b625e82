
/-
  The row of lines that ObjectsKeep keeps; what stays true over its calls.
-/
import Derived.Test.YtjmgmbigbkllgaaOSteps
namespace Go.Proofs.Ytjmgmbigbkllgaa
open Go.ChangeShapes Go.WideShapes Go.ChangeAt Go.RowKit Go.Joins
set_option maxRecDepth 10000
set_option linter.unusedVariables false
set_option linter.unusedSimpArgs false

def keptV (K : Nat → Nat → Int) : Array Value := tab 800 fun c => .int .u64 (K (c / 8) (c % 8))
/-- The first k lines are the memory's. -/
def keptTo (A : Mm) (K : Nat → Nat → Int) (k : Nat) : Nat → Nat → Int := fun z q => if z < k then A.hasZ (z : Int) q else K z q
theorem keptTo_zero (A : Mm) (K : Nat → Nat → Int) : keptTo A K 0 = K := by
  funext z q; unfold keptTo; rw [if_neg (by omega)]
theorem block_sets {g : Nat} {T : TypeId} {fr : Nat × Nat} {n : Nat} : ∀ (vs : List Value) (o : Nat) (f : Nat → Value) (w : World), w.heap[g]? = some (.cells (tab n f) T fr) →
    (w.setCells g o vs).heap[g]? = some (.cells (tab n fun c => if o ≤ c ∧ c < o + vs.length then vs.getD (c - o) undef else f c) T fr)
  | [], o, f, w, h => by
    show w.heap[g]? = _
    rw [h]
    congr 2
    exact tab_ext fun i _ => (if_neg (fun c => by have := c.1; have := c.2; simp at this; omega)).symm
  | v :: vs, o, f, w, h => by
    have h1 : (w.setCell ⟨g, o, none⟩ v).heap[g]? = some (.cells (tab n (upd f o v)) T fr) := by rw [block_setCell h, tab_set]
    show ((w.setCell ⟨g, o, none⟩ v).setCells g (o + 1) vs).heap[g]? = _
    rw [block_sets vs (o + 1) _ _ h1]
    congr 2
    refine tab_ext fun i _ => ?_
    by_cases e : i = o
    · subst e
      rw [if_neg (by omega), upd_same, if_pos ⟨Nat.le_refl _, by simp⟩]
      simp
    · by_cases c : o + 1 ≤ i ∧ i < o + 1 + vs.length
      · rw [if_pos c, if_pos ⟨by omega, by simp only [List.length_cons]; omega⟩, show i - o = (i - (o + 1)) + 1 by omega]
        simp
      · rw [if_neg c, upd_other _ _ _ _ e, if_neg (by simp only [List.length_cons]; omega)]
theorem keeps_sets {g : Nat} : ∀ (vs : List Value) (o : Nat) (a w : World), Keeps (· = g) a w → Keeps (· = g) a (w.setCells g o vs)
  | [], _, _, _, h => h
  | v :: vs, o, a, w, h => keeps_sets vs (o + 1) a _ (h.setCell (p := ⟨g, o, none⟩) rfl v)
theorem kept_put {w : World} {g : Nat} {T : TypeId} {K : Nat → Nat → Int} {A : Mm} {k : Nat} (hk : k < 100) (h : w.heap[g]? = some (.cells (keptV (keptTo A K k)) T (0, 0))) :
    (w.setCells g (k * 8) (lnV (A.hasZ (k : Int))).toList).heap[g]? = some (.cells (keptV (keptTo A K (k + 1))) T (0, 0)) := by
  rw [block_sets _ _ _ _ h]
  congr 2
  refine tab_ext fun c hc => ?_
  rw [Array.length_toList, lnV_size]
  by_cases e : k * 8 ≤ c ∧ c < k * 8 + 8
  · rw [if_pos e, List.getD_eq_getElem?_getD, Array.getElem?_toList, lnV_get _ _ (by omega)]
    show Value.int .u64 _ = _
    unfold keptTo
    rw [if_pos (by omega), show c / 8 = k by omega, show c % 8 = c - k * 8 by omega]
  · rw [if_neg e]
    unfold keptTo
    by_cases e2 : c / 8 < k
    · rw [if_pos e2, if_pos (by omega)]
    · rw [if_neg e2, if_neg (by omega)]
theorem kept_there {w : World} {g : Nat} {T : TypeId} {K : Nat → Nat → Int} {k : Nat} (hk : k < 100) (h : w.heap[g]? = some (.cells (keptV K) T (0, 0))) : w.there g (k * 8) 8 := (Blk.of_tab (T := T) h).there _ _ (by omega)
theorem kept_range {w : World} {g : Nat} {T : TypeId} {K : Nat → Nat → Int} {k : Nat} (hk : k < 100) (h : w.heap[g]? = some (.cells (keptV K) T (0, 0))) : w.rangeAt g (k * 8) (lnV (K k)).toList := by
  have := (Blk.of_tab (T := T) h).range (k * 8) 8 (by omega) (fun q => .int .u64 (K k q)) (fun j hj => by
    show Value.int .u64 (K ((k * 8 + j) / 8) ((k * 8 + j) % 8)) = _
    rw [show (k * 8 + j) / 8 = k by omega, show (k * 8 + j) % 8 = j by omega])
  have e : (lnV (K k)).toList = (List.range 8).map fun q => Value.int .u64 (K k q) := by unfold lnV tab; simp
  rw [e]; exact this
theorem made_kept {w : World} {base g : Nat} {T : TypeId} (h : w.ownsRow base T 8 (.slice (some ⟨g, 0, none⟩) 100 100) 100 (madeCells (Value.agg (lnV fun _ => 0)).cells (100 * 8)).toList) :
    w.heap[g]? = some (.cells (keptV fun _ _ => 0) T (0, 0)) := by
  rcases h.2 with ⟨h', _⟩ | ⟨g', cap, cur, h', _, hg, _, _, hcs, htake⟩
  · simp at h'
  · simp only [Value.slice.injEq, Option.some.injEq, Addr.mk.injEq, and_true, true_and] at h'
    obtain ⟨rfl, rfl⟩ := h'
    have hcur : cur = keptV fun _ _ => 0 := by
      rw [List.take_of_length_le (by simp [hcs])] at htake
      have h2 : cur = madeCells (Value.agg (lnV fun _ => 0)).cells (100 * 8) := by rw [← Array.toArray_toList (xs := cur), htake, Array.toArray_toList]
      rw [h2]
      apply Array.ext_getElem?
      intro i
      by_cases hi : i < 800
      · unfold keptV
        rw [tab_get _ _ _ hi]
        simp only [madeCells, Array.getElem?_map, Array.getElem?_range, show i < 100 * 8 from hi, if_true, Option.map_some]
        show some ((lnV fun _ => 0)[i % (lnV fun _ => 0).size]!) = _
        rw [lnV_size]
        have := tab_get 8 (fun _ => Value.int .u64 0) (i % 8) (Nat.mod_lt _ (by decide))
        rw [getElem!_def, show (lnV fun _ => 0)[i % 8]? = _ from this]
      · unfold keptV
        rw [tab_none _ _ _ (by omega), Array.getElem?_eq_none (by rw [size_madeCells]; omega)]
    rw [← hcur]; exact hg
/-- A block that a grown world has where the old one ended: as if it were laid. -/
theorem keeps_made {w w' : World} {o : Obj} (hk : Keeps (fun _ => False) w w') (h : w'.heap[w.heap.size]? = some o) : Keeps (fun _ => False) (w.alloc o) w' := by
  have hlt : w.heap.size < w'.heap.size := by
    rcases Nat.lt_or_ge w.heap.size w'.heap.size with h' | h'
    · exact h'
    · rw [Array.getElem?_eq_none h'] at h; cases h
  have hs : (w.alloc o).heap.size = w.heap.size + 1 := by simp
  refine ⟨hk.os, hk.tape, hk.output, by rw [hs]; omega, fun k hk' _ => ?_⟩
  rw [hs] at hk'
  by_cases e : k = w.heap.size
  · rw [e, h]; exact (heap_new w o).symm
  · rw [Below.heap_alloc w o k (by omega)]; exact hk.block k (by omega) id

/-! ### what stays true -/
structure KInv (S : Sto) (A : Mm) (mk : Bool) (K : Nat → Nat → Int) : Prop where
  inv : Inv S
  ok : S.ok
  lh : S.F.lo = 10 ∧ S.F.hi = 100
  n : A.n = 100
  calm : Calm A
  is : S.is = mk
  base : ∀ i, i < 49 → (S.b i).k ≠ 0 → ∀ q, q < 8 → A.hasZ (S.b i).l q = 0
  kept : mk = true → ∀ i, i < 49 → (S.k i).k ≠ 0 → ∀ q, q < 8 → A.hasZ (S.k i).l q = K (S.k i).l.toNat q
theorem KInv.step {S : Sto} {A : Mm} {mk : Bool} {K : Nat → Nat → Int} (h : KInv S A mk K) (p : OOp) : KInv (stepS S A p) (stepM S A p) mk K := by
  obtain ⟨f1, f2, f3, f4⟩ := fixed_step S A p
  obtain ⟨k1, k2⟩ := keep_step h.inv h.calm (by rw [h.lh.2, h.n]; decide) p
  refine ⟨inv_step h.inv A p, stepS_ok h.ok A p, ⟨(lohi_step S A p).1.trans h.lh.1, (lohi_step S A p).2.trans h.lh.2⟩, (stepM_n S A p).trans h.n, k1, f4.trans h.is, ?_, ?_⟩
  · rw [f1]
    intro i hi hk q hq
    rw [k2 _ (Or.inl ((hasB_iff _ _).2 ⟨i, hi, hk, rfl⟩))]
    exact h.base i hi hk q hq
  · rw [f3]
    intro hm i hi hk q hq
    rw [k2 _ (Or.inr ((hasB_iff _ _).2 ⟨i, hi, hk, rfl⟩))]
    exact h.kept hm i hi hk q hq
theorem KInv.mark {S : Sto} {A : Mm} {K K' : Nat → Nat → Int} (h : KInv S A false K) (hK : ∀ z, z < 100 → ∀ q, q < 8 → K' z q = A.hasZ (z : Int) q) : S.markE = 0 ∧ KInv S.markS A true K' := by
  have hi := h.is
  have e : S.markS = ⟨S.F, S.w, S.b, S.d, S.w, true⟩ := by unfold Sto.markS; rw [hi]; rfl
  refine ⟨by unfold Sto.markE; rw [hi]; rfl, ?_⟩
  have hinv := inv_mark h.inv
  have hok := markS_ok h.ok
  rw [e] at hinv hok ⊢
  refine ⟨hinv, hok, h.lh, h.n, h.calm, rfl, h.base, fun _ i hi' hk q hq => ?_⟩
  have ht := (h.inv.tw i hi' hk).1
  have h1 := ht.1; have h2 := ht.2
  rw [h.lh.1] at h1; rw [h.lh.2] at h2
  have := hK (S.w i).l.toNat (by omega) q hq
  rw [Int.toNat_of_nonneg (by omega)] at this
  exact this.symm
theorem zero_hasZ (z : Int) (hz : 0 ≤ z ∧ z < 100) (j : Nat) : (sA 100).hasZ z j = 0 := by
  unfold Mm.hasZ
  rw [if_pos ⟨⟨hz.1, hz.2⟩, rfl⟩]; rfl
theorem KInv.start (K : Nat → Nat → Int) : KInv (sS 12 100) (sA 100) false K := by
  have hI := inv_sS 100 (by decide) 12 (by decide)
  refine ⟨hI, sS_ok 12 100 (by decide) (by decide), sS_lo 12 100, rfl, calm_new _ _, rfl, fun i hi hk q hq => ?_, fun h => by cases h⟩
  have ht := (hI.tb i hi hk).1
  have h1 := ht.1; have h2 := ht.2
  rw [(sS_lo 12 100).1] at h1; rw [(sS_lo 12 100).2] at h2
  exact zero_hasZ _ ⟨by omega, by omega⟩ q
theorem KInv.lineB {S : Sto} {A : Mm} {mk : Bool} {K : Nat → Nat → Int} (h : KInv S A mk K) (i : Nat) (hi : i < 49) (hk : (S.b i).k ≠ 0) : eqL (A.hasZ (S.b i).l) zeroL = true := (eqL_iff _ _).2 fun q hq => h.base i hi hk q hq
theorem KInv.lineK {S : Sto} {A : Mm} {K : Nat → Nat → Int} (h : KInv S A true K) (i : Nat) (hi : i < 49) (hk : (S.k i).k ≠ 0) : ∃ z : Nat, (S.k i).l = (z : Int) ∧ z < 100 ∧ eqL (A.hasZ (S.k i).l) (K z) = true := by
  have ht := (h.inv.tm i hi hk).1
  have h1 := ht.1; have h2 := ht.2
  rw [h.lh.1] at h1; rw [h.lh.2] at h2
  exact ⟨(S.k i).l.toNat, by omega, by omega, (eqL_iff _ _).2 fun q hq => h.kept rfl i hi hk q hq⟩

end Go.Proofs.Ytjmgmbigbkllgaa
