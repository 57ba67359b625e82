
/-
  What nvm's small functions return: isSize, isWord, isCore, isLine, kept; Fuse, On, Lines, Steps; and the statements' kind.
-/
import Derived.Test.YtjidekjeibdbgaaNIs
namespace Go.Proofs.Ytjidekjeibdbgaa
open Go.ChangeShapes Go.WideShapes Go.ChangeAt Go.RowKit Go.Joins
set_option linter.unusedVariables false

theorem tmod_neg (z : Int) (hz : z < 0) (n : Int) (hn : 0 < n) : -((z + 1).tmod n) = (((-(z + 1)) % n).toNat : Int) := by
  rw [← Int.neg_tmod, Int.tmod_eq_emod_of_nonneg (by omega)]
  have := Int.emod_nonneg (-(z + 1)) (show n ≠ 0 by omega)
  omega
theorem tmod_pos (z : Int) (hz : 0 ≤ z) (n : Int) (hn : 0 < n) : z.tmod n = ((z % n).toNat : Int) := by
  rw [Int.tmod_eq_emod_of_nonneg hz]
  have := Int.emod_nonneg z (show n ≠ 0 by omega)
  omega
theorem emod_toNat (z : Int) (n : Int) (hn : 0 < n) : z % n = ((z % n).toNat : Int) := by
  have := Int.emod_nonneg z (show n ≠ 0 by omega)
  omega
def In64 (z : Int) : Prop := -9223372036854775808 ≤ z ∧ z ≤ 9223372036854775807
theorem nret_int {k : IntKind} {a b : Int} (h : a = b) : Ending.returned (.int k a) = .returned (.int k b) := by rw [h]
theorem nret_bool {a b : Bool} (h : a = b) : Ending.returned (.bool a) = .returned (.bool b) := by rw [h]

theorem isWord_any (z : Int) (w : World) : Calls Try.prog 44 #[.int .i64 z] w fun e w' => e = .returned (.bool (decide (0 ≤ z ∧ z < 8))) ∧ w' = w := by
  go_enter Try.func44, Try.ntmps44
  go_wp2
  all_goals go_ret
  all_goals refine ⟨nret_bool ?_, rfl⟩
  all_goals first | (refine decide_eq_decide.2 ?_; omega) | (symm; rw [decide_eq_false_iff_not]; omega) | (symm; rw [decide_eq_true_iff]; omega) | (simp; omega)
theorem isCore_any (z : Int) (w : World) : Calls Try.prog 68 #[.int .i64 z] w fun e w' => e = .returned (.bool (decide (0 ≤ z ∧ z < 8))) ∧ w' = w := by
  go_enter Try.func68, Try.ntmps68
  go_wp2
  all_goals go_ret
  all_goals refine ⟨nret_bool ?_, rfl⟩
  all_goals first | (refine decide_eq_decide.2 ?_; omega) | (symm; rw [decide_eq_false_iff_not]; omega) | (symm; rw [decide_eq_true_iff]; omega) | (simp; omega)
theorem isSize_any (z : Int) (w : World) : Calls Try.prog 36 #[.int .i64 z] w fun e w' => e = .returned (.bool (decide (64 ≤ z ∧ z ≤ 1024))) ∧ w' = w := by
  go_enter Try.func36, Try.ntmps36
  go_wp2
  all_goals go_ret
  all_goals refine ⟨nret_bool ?_, rfl⟩
  all_goals first | (refine decide_eq_decide.2 ?_; omega) | (symm; rw [decide_eq_false_iff_not]; omega) | (symm; rw [decide_eq_true_iff]; omega) | (simp; omega)
theorem isLine_any {w : World} {F : Nat → Prop} {b c : Nat} {A : Mm} {cs : Nat → Cel} (h : Rep w F b A c cs) (z : Int) :
    Calls Try.prog 43 #[.pointer (some ⟨b, 0, none⟩), .int .i64 z] w fun e w' => e = .returned (.bool (decide (0 ≤ z ∧ z < A.n))) ∧ w' = w := by
  obtain ⟨K0, c0⟩ := h.c0
  clear h
  go_enter Try.func43, Try.ntmps43
  go_wp2
  all_goals go_ret
  all_goals refine ⟨nret_bool ?_, rfl⟩
  all_goals first | (refine decide_eq_decide.2 ?_; omega) | (symm; rw [decide_eq_false_iff_not]; omega) | (symm; rw [decide_eq_true_iff]; omega) | (simp; omega)
theorem steps_any {w : World} {F : Nat → Prop} {b c : Nat} {A : Mm} {cs : Nat → Cel} (h : Rep w F b A c cs) :
    Calls Try.prog 31 #[.pointer (some ⟨b, 0, none⟩)] w fun e w' => e = .returned (.int .i64 (A.steps : Int)) ∧ w' = w := by
  have c3 := h.c3
  clear h
  go_enter Try.func31, Try.ntmps31
  go_wp2
  go_ret
  exact ⟨rfl, rfl⟩
theorem head_set {w : World} {b c : Nat} {A : Mm} (hd : ∃ K, w.heap[b]? = some (.cells (headOf A c K) 75 (0, 0))) (i : Nat) (v : Value) (A' : Mm) (e : ∀ K, (headOf A c K).setIfInBounds i v = headOf A' c K) :
    ∃ K, (w.setCell ⟨b, i, none⟩ v).heap[b]? = some (.cells (headOf A' c K) 75 (0, 0)) := by obtain ⟨K, hd⟩ := hd; exact ⟨K, by rw [block_setCell hd, e]⟩
theorem fuse_any {w : World} {F : Nat → Prop} {b c : Nat} {A : Mm} {cs : Nat → Cel} (h : Rep w F b A c cs) (z : Int) :
    Calls Try.prog 18 #[.pointer (some ⟨b, 0, none⟩), .int .i64 z] w fun e w' => e = .returned (.tuple #[]) ∧ Rep w' F b (A.fused z) c cs ∧ Keeps F w w' := by
  have c2 := h.c2
  have f2 := h.fr 2
  have H := hide h
  clear h
  by_cases hz : z < -1
  · go_enter Try.func18, Try.ntmps18
    go_wp2
    go_end0
    refine ⟨rfl, ?_, Keeps.setCell (Keeps.refl _ _) (unhide H).fb _⟩
    unfold Mm.fused
    rw [if_pos hz]
    exact (unhide H).head (Keeps.setCell (F := (· = b)) (Keeps.refl _ _) rfl _) _ _ _ (head_set (unhide H).hd 2 _ _ fun _ => rfl)
  · have hz' : -1 ≤ z := by omega
    go_enter Try.func18, Try.ntmps18
    go_wp2
    go_end0
    refine ⟨rfl, ?_, Keeps.setCell (Keeps.refl _ _) (unhide H).fb _⟩
    unfold Mm.fused
    rw [if_neg (by omega)]
    exact (unhide H).head (Keeps.setCell (F := (· = b)) (Keeps.refl _ _) rfl _) _ _ _ (head_set (unhide H).hd 2 _ _ fun _ => rfl)

/-! ### A row of ints that came in -/
def IntsAt (w : World) (a : Option Addr) (zs : List Int) : Prop := zs = [] ∨ ∃ b off, a = some ⟨b, off, none⟩ ∧ ∀ i, i < zs.length → w.cell? ⟨b, off + i, none⟩ = some (.int .i64 (zs.getD i 0))
theorem kept_any (a : Option Addr) (keep : List Int) (cap : Nat) (hr : ∀ z ∈ keep, In64 z) (hl : keep.length ≤ 9223372036854775807) (w : World) (h : IntsAt w a keep) (i m : Nat) (hm : m ≤ 1099511627776) :
    Calls Try.prog 40 #[.slice a keep.length cap, .int .i64 i, .int .i64 m] w fun e w' => e = .returned (.int .i64 (keptN keep i m : Nat)) ∧ w' = w := by
  by_cases hi : i < keep.length
  · rcases h with h | ⟨b, off, rfl, h⟩
    · rw [h] at hi; simp at hi
    have hc := h i hi
    have hz := hr (keep.getD i 0) (by rw [List.getD_eq_getElem?_getD, List.getElem?_eq_getElem hi]; simp)
    have HK : Hid (keptN keep i m = ((if keep.getD i 0 < 0 then -(keep.getD i 0 + 1) else keep.getD i 0) % ((m : Int) + 1)).toNat) := by show _ = _; unfold keptN; rw [if_pos hi]
    generalize keep.getD i 0 = z at *
    have hi' : (i : Int) < (keep.length : Int) := by omega
    obtain ⟨z0, z1⟩ := hz
    clear h hr
    by_cases hn : z < 0
    · go_enter Try.func40, Try.ntmps40
      go_wp2
      go_ret
      refine ⟨nret_int ?_, rfl⟩
      rw [unhide HK, if_pos hn]
      first | exact tmod_neg z hn _ (by omega) | trace_state
    · go_enter Try.func40, Try.ntmps40
      go_wp2
      go_ret
      refine ⟨nret_int ?_, rfl⟩
      rw [unhide HK, if_neg (by omega)]
      first | exact emod_toNat z _ (by omega) | exact tmod_pos z (by omega) _ (by omega) | trace_state
  · go_enter Try.func40, Try.ntmps40
    go_wp2
    go_ret
    refine ⟨nret_int ?_, rfl⟩
    unfold keptN
    rw [if_neg hi]; rfl

end Go.Proofs.Ytjidekjeibdbgaa
