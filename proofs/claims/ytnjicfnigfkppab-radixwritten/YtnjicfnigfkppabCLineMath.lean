
/-
  Plain mathematics of sealed lines: what is set, what is read, and when a line is its own seal. No program.
-/
import Derived.Test.YtnjicfnigfkppabCMath
import Derived.Test.YtnjicfnigfkppabWLineMath
namespace Go.Proofs.Ytnjicfnigfkppab

def sealW (zs : List Int) : Int := 4294967296 + ((moreN 0 ((bytesOf zs).take 56) : Nat) : Int)
def sealOf (zs : List Int) : List Int := zs.set 7 (sealW zs)
theorem sealOf_len (zs : List Int) : (sealOf zs).length = zs.length := by simp [sealOf]
theorem bytesOf_b8 (zs : List Int) : Bytes8 (bytesOf zs) := fun z hz => by have := bytesOf_bd zs z hz; omega
theorem sealW_bd (zs : List Int) : 4294967296 ≤ sealW zs ∧ sealW zs ≤ 8589934591 := by
  have := moreN_lt (s := 0) (b8_take (bytesOf_b8 zs) 56) (by decide)
  unfold sealW; omega
theorem or_mark (m : Nat) (h : m < 4294967296) : bits .or .u64 (m : Int) 4294967296 = 4294967296 + (m : Int) := by
  have e := u64_or_nat m 4294967296 (by omega) (by decide)
  rw [Nat.or_comm, nat_join 32 4294967296 m (by decide) (by simpa using h)] at e
  refine Eq.trans ?_ (e.trans ?_)
  · rfl
  · simp
def goodB (zs : List Int) : Bool := decide (zs.getD 7 0 = sealW zs)
theorem good_seal (zs : List Int) (hl : zs.length = 8) : decide (zs = sealOf zs) = goodB zs := by
  unfold goodB
  refine decide_eq_decide.2 ⟨fun h => ?_, fun h => ?_⟩
  · have : zs.getD 7 0 = (sealOf zs).getD 7 0 := by rw [← h]
    rw [this]
    unfold sealOf
    rw [List.getD_eq_getElem?_getD, List.getElem?_set_self (by omega)]; rfl
  · apply List.ext_getElem?
    intro i
    unfold sealOf
    rw [List.getElem?_set]
    by_cases hi : 7 = i
    · subst hi
      rw [if_pos rfl, if_pos (by omega), ← h, List.getD_eq_getElem?_getD, List.getElem?_eq_getElem (by omega)]; rfl
    · rw [if_neg hi]
theorem good_seal' (zs : List Int) (hl : zs.length = 8) : decide (sealOf zs = zs) = goodB zs := by
  rw [← good_seal zs hl]; exact decide_eq_decide.2 eq_comm
theorem bytes_set7 (zs : List Int) (x : Int) : (bytesOf (zs.set 7 x)).take 56 = (bytesOf zs).take 56 := by
  apply List.ext_getElem?
  intro n
  rw [List.getElem?_take, List.getElem?_take]
  by_cases hn : n < 56
  · rw [if_pos hn, if_pos hn]
    unfold bytesOf
    rw [List.getElem?_map, List.getElem?_map, List.getElem?_range (by omega)]
    show some _ = some _
    unfold byteAt
    rw [List.getD_eq_getElem?_getD, List.getD_eq_getElem?_getD, List.getElem?_set, if_neg (by omega)]
  · rw [if_neg hn, if_neg hn]
theorem sealW_set (zs : List Int) (x : Int) : sealW (zs.set 7 x) = sealW zs := by unfold sealW; rw [bytes_set7]
theorem seal_twice (zs : List Int) : sealOf (sealOf zs) = sealOf zs := by
  unfold sealOf
  rw [sealW_set, List.set_set]
theorem good_of_seal (zs : List Int) (hl : zs.length = 8) : goodB (sealOf zs) = true := by
  unfold goodB sealOf
  rw [sealW_set, decide_eq_true_iff, List.getD_eq_getElem?_getD, List.getElem?_set_self (by omega)]; rfl
theorem seal_other (zs : List Int) (i : Nat) (h : i < 7) : (sealOf zs).getD i 0 = zs.getD i 0 := by
  unfold sealOf
  rw [List.getD_eq_getElem?_getD, List.getD_eq_getElem?_getD, List.getElem?_set, if_neg (by omega)]

end Go.Proofs.Ytnjicfnigfkppab
