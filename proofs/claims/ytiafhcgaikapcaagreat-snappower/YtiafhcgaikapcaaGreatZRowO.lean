
/-
  The row of objects that steadfastlaw11's statements keep, and what is left of the state when the store is done with. No law.
-/
import Derived.Test.YtiafhcgaikapcaaGreatZBase
import Derived.Test.YtiafhcgaikapcaaGreatPkIv
namespace Go.Proofs.YtiafhcgaikapcaaGreat
open Go.ChangeShapes Go.WideShapes Go.ChangeAt Go.RowKit Go.Joins
set_option linter.unusedVariables false
set_option linter.unusedSimpArgs false
set_option maxRecDepth 100000

/-! ### the row of objects -/
def waV (O : Nat → Nat → Value) : Array Value := tab 490 fun c => O (c / 10) (c % 10)
def waTo (S : Sto) (A : Mm) (k i q : Nat) : Value := if i < k then (S.getV A (i : Int)).getD q undef else (obV 0 0 fun _ => 0).getD q undef
theorem waV_ext {O O' : Nat → Nat → Value} (h : ∀ i q, i < 49 → q < 10 → O i q = O' i q) : waV O = waV O' := by
  unfold waV
  refine tab_ext fun c hc => ?_
  rw [h _ _ (by omega) (by omega)]
theorem wa_put {w : World} {g : Nat} {T : TypeId} {O : Nat → Nat → Value} {k : Nat} (l : Array Value) (hl : l.size = 10) (hk : k < 49) (h : w.heap[g]? = some (.cells (waV O) T (0, 0))) :
    (w.setCells g (k * 10) l.toList).heap[g]? = some (.cells (waV (fun i q => if i = k then l.getD q undef else O i q)) T (0, 0)) := by
  rw [block_sets _ _ _ _ h]
  congr 2
  refine tab_ext fun c hc => ?_
  rw [Array.length_toList, hl]
  show _ = if c / 10 = k then l.getD (c % 10) undef else O (c / 10) (c % 10)
  by_cases e : k * 10 ≤ c ∧ c < k * 10 + 10
  · rw [if_pos e, if_pos (show c / 10 = k by omega), show c % 10 = c - k * 10 by omega]
    have hlt : c - k * 10 < l.size := by omega
    rw [List.getD_eq_getElem?_getD, Array.getElem?_toList, Array.getD_eq_getD_getElem?]
  · rw [if_neg e, if_neg (show ¬ c / 10 = k by omega)]
theorem wa_there {w : World} {g : Nat} {T : TypeId} {O : Nat → Nat → Value} {k : Nat} (hk : k < 49) (h : w.heap[g]? = some (.cells (waV O) T (0, 0))) : w.there g (k * 10) 10 := (Blk.of_tab (T := T) h).there _ _ (by omega)
theorem wa_range {w : World} {g : Nat} {T : TypeId} {O : Nat → Nat → Value} {k : Nat} (hk : k < 49) (l : Array Value) (hl : l.size = 10) (hO : ∀ q, q < 10 → O k q = l.getD q undef) (h : w.heap[g]? = some (.cells (waV O) T (0, 0))) : w.rangeAt g (k * 10) l.toList := by
  have e : l.toList = (List.range 10).map fun q => O k q := by
    apply List.ext_getElem?
    intro i
    by_cases hi : i < 10
    · rw [List.getElem?_map, List.getElem?_range hi, Array.getElem?_toList]
      show _ = some (O k i)
      rw [hO i hi, Array.getD_eq_getD_getElem?, Array.getElem?_eq_getElem (by omega)]; rfl
    · rw [List.getElem?_eq_none (by rw [Array.length_toList]; omega), List.getElem?_eq_none (by simpa using hi)]
  rw [e]
  exact (Blk.of_tab (T := T) h).range (k * 10) 10 (by omega) (fun q => O k q) (fun j hj => by
    show O ((k * 10 + j) / 10) ((k * 10 + j) % 10) = _
    rw [show (k * 10 + j) / 10 = k by omega, show (k * 10 + j) % 10 = j by omega])
theorem waTo_next (S : Sto) (A : Mm) (k : Nat) : (fun i q => if i = k then (S.getV A (k : Int)).getD q undef else waTo S A k i q) = waTo S A (k + 1) := by
  funext i q
  unfold waTo
  by_cases e : i = k
  · subst e; rw [if_pos rfl, if_pos (by omega)]
  · rw [if_neg e]
    by_cases h : i < k
    · rw [if_pos h, if_pos (by omega)]
    · rw [if_neg h, if_neg (by omega)]
theorem zero_wa0 : (Tryz.prog.info? 89).map (·.zero) = some (some (.agg (waV fun _ q => (obV 0 0 fun _ => 0).getD q undef))) := by kernel_rfl
theorem built_wa0 : Tryz.prog.built 89 [] = some (waV fun _ q => (obV 0 0 fun _ => 0).getD q undef) := by kernel_rfl
theorem zero_wa (S : Sto) (A : Mm) : (Tryz.prog.info? 89).map (·.zero) = some (some (.agg (waV (waTo S A 0)))) := by
  have e : waV (waTo S A 0) = waV fun _ q => (obV 0 0 fun _ => 0).getD q undef := waV_ext fun i q _ _ => if_neg (by omega)
  rw [e]; exact zero_wa0
theorem built_wa (S : Sto) (A : Mm) : Tryz.prog.built 89 [] = some (waV (waTo S A 0)) := by
  have e : waV (waTo S A 0) = waV fun _ q => (obV 0 0 fun _ => 0).getD q undef := waV_ext fun i q _ _ => if_neg (by omega)
  rw [e]; exact built_wa0
theorem s490 (O : Nat → Nat → Value) : (Tryz.prog.info? 89).map (·.size) = some (waV O).size := by unfold waV; rw [tab_size]; kernel_rfl
theorem zgetV_ob (S : Sto) (A : Mm) (x : Int) : ∃ k v f, S.getV A x = obV k v f := by
  unfold Sto.getV
  split
  · exact ⟨_, _, _, rfl⟩
  · exact ⟨_, _, _, rfl⟩
theorem zero_obz : (Tryz.prog.info? 88).map (·.zero) = some (some (.agg (obV 0 0 fun _ => 0))) := by kernel_rfl
theorem getV_size (S : Sto) (A : Mm) (z : Int) : (S.getV A z).size = 10 := by
  unfold Sto.getV; split <;> exact obV_size _ _ _
theorem getV_one (S : Sto) (A : Mm) (z : Int) : (S.getV A z).all (·.oneCell') = true := by
  unfold Sto.getV; split <;> exact obV_one _ _ _
theorem waV0_one (S : Sto) (A : Mm) : (waV (waTo S A 0)).all (·.oneCell') = true := by
  have e : waV (waTo S A 0) = waV fun _ q => (obV 0 0 fun _ => 0).getD q undef := waV_ext fun i q _ _ => if_neg (by omega)
  rw [e]; decide +kernel


theorem lnV_same {f g : Nat → Int} (h : ∀ j, j < 8 → f j = g j) : lnV f = lnV g := by
  unfold lnV
  exact tab_ext fun j hj => by rw [h j hj]
theorem lnV_rows (f : Nat → Int) : (lnV f).toList = (List.range 8).map fun j => Value.int .u64 (f j) := by simp [lnV, tab]
theorem wa_line {w : World} {g : Nat} {T : TypeId} {S : Sto} {A : Mm} {k : Nat} (hk : k < 49) (hE : S.getE A (k : Int) = 0) (h : w.heap[g]? = some (.cells (waV (waTo S A 49)) T (0, 0))) : w.rangeAt g (k * 10 + 2) (lnV (A.hasZ (S.line (k : Int)))).toList := by
  rw [lnV_rows]
  refine (Blk.of_tab (T := T) h).range (k * 10 + 2) 8 (by omega) (fun j => .int .u64 (A.hasZ (S.line (k : Int)) j)) (fun j hj => ?_)
  show waTo S A 49 ((k * 10 + 2 + j) / 10) ((k * 10 + 2 + j) % 10) = _
  rw [show (k * 10 + 2 + j) / 10 = k by omega, show (k * 10 + 2 + j) % 10 = 2 + j by omega]
  unfold waTo
  rw [if_pos hk]
  unfold Sto.getV
  rw [if_pos hE]
  unfold obV
  rw [Array.getD_eq_getD_getElem?, Array.getElem?_append_right (by simp)]
  show ((lnV _)[2 + j - 2]?).getD undef = _
  rw [show 2 + j - 2 = j by omega]
  unfold lnV
  rw [tab_get _ _ _ hj]
  rfl
theorem get_there {N : Nat} {S : Sto} {A : Mm} (g : Good N S) (hc : Calm A) (hn : A.n = N) {k : Nat} (hk : k < 49) (h0 : (S.w k).k ≠ 0) : S.getE A (k : Int) = 0 ∧ A.hasZ (S.line (k : Int)) = (A.l (S.w k).l.toNat).has := by
  have ht := (g.inv.tw k hk h0).1
  have e1 : S.line (k : Int) = (S.w k).l := by unfold Sto.line; rw [Int.toNat_natCast]
  have hz : A.isZ (S.w k).l := isZ_isF (by rw [g.lh.2, hn]; exact Nat.le_refl _) ht
  have hf : S.findE (k : Int) = 0 := by unfold Sto.findE; rw [if_pos ⟨by omega, by omega⟩, Int.toNat_natCast, if_neg h0]
  refine ⟨?_, ?_⟩
  · unfold Sto.getE; rw [if_pos hf, e1]; exact calm_loadE hc hz
  · rw [e1]; unfold Mm.hasZ; rw [if_pos ⟨hz, hc.1⟩]
theorem WHas.drop {W w : World} {m b x : Nat} {S : Sto} {A : Mm} {K : Wk} {G : Nat → Prop} (h : WHas W m b x (fun A w G => Has W w G m A) S A K w G) : Has W w G m A := by
  obtain ⟨sl, h⟩ := h
  exact (Has.stay W m A).ls _ _ _ h.st.st (fun k hk => Or.inl (Or.inl hk))
theorem Held.drop {W : World} {m b x : Nat} {S : Sto} {A : Mm} {K : Wk} {w0 w : World} {F : Nat → Prop} {L : List (Nat × Obj)} (h : Held W (WHas W m b x (fun A w G => Has W w G m A) S A K) w0 w F L) : Held W (fun w G => Has W w G m A) w0 w F L := ⟨h.1.drop, h.2⟩
theorem Dn.line {N : Nat} {S : Sto} {A : Mm} {q : Int} {e : Nat} {S' : Sto} {A' : Mm} {K : Wk} (h : Dn N S.w (fun i => (A.l (S.w i).l.toNat).has) q e S' A' K) (g : Good N S) (hc : Calm A) (hn : A.n = N) {k : Nat} (hk : k < 49) (h0 : (S.w k).k ≠ 0) : (A'.crash []).loadE (S.w k).l = 0 ∧ lnV ((A'.crash []).hasZ (S.w k).l) = lnV (A.hasZ (S.line (k : Int))) ∧ S.getE A (k : Int) = 0 := by
  obtain ⟨g1, g2⟩ := get_there g hc hn hk h0
  refine ⟨?_, ?_, g1⟩
  · have hz : (A'.crash []).isZ (S.w k).l := by
      have := h.img.te k hk h0
      have hn := h.n
      show 0 ≤ (S.w k).l ∧ (S.w k).l < A'.n
      omega
    unfold Mm.loadE
    rw [if_pos hz]
    rfl
  · rw [g2]
    exact lnV_same fun j hj => h.has [] hk h0 j hj

end Go.Proofs.YtiafhcgaikapcaaGreat
