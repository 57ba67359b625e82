import Derived.Test.YtiafhcgaikapcaaGreatCMath
import Derived.Test.YtiafhcgaikapcaaGreatWLineMath
import Derived.Test.YtiafhcgaikapcaaGreatRows2
import Derived.Test.YtiafhcgaikapcaaGreatPkEn

/-
  Plain mathematics of sealed lines: what is set, what is read, and when a line is its own seal. No program.
-/
namespace Go.Proofs.YtiafhcgaikapcaaGreat

def sealW (zs : List Int) : Int := 4294967296 + ((moreN 0 ((bytesOf zs).take 56) : Nat) : Int)
def sealOf (zs : List Int) : List Int := zs.set 7 (sealW zs)
theorem sealOf_len (zs : List Int) : (sealOf zs).length = zs.length := by simp [sealOf]
theorem bytesOf_b8 (zs : List Int) : Bytes8 (bytesOf zs) := fun z hz => by have := bytesOf_bd zs z hz; omega
theorem sealW_bd (zs : List Int) : 4294967296 ≤ sealW zs ∧ sealW zs ≤ 8589934591 := by
  have := moreN_lt (s := 0) (b8_take (bytesOf_b8 zs) 56) (by decide)
  unfold sealW; omega
theorem or_mark (m : Nat) (h : m < 4294967296) : bits .or .u64 (m : Int) 4294967296 = 4294967296 + (m : Int) := by
  have e := u64_or_nat m 4294967296 (by omega) (by decide)
  rw [Nat.or_comm, nat_join 32 4294967296 m (by decide) (by simpa using h)] at e
  refine Eq.trans ?_ (e.trans ?_)
  · rfl
  · simp
def goodB (zs : List Int) : Bool := decide (zs.getD 7 0 = sealW zs)
theorem good_seal (zs : List Int) (hl : zs.length = 8) : decide (zs = sealOf zs) = goodB zs := by
  unfold goodB
  refine decide_eq_decide.2 ⟨fun h => ?_, fun h => ?_⟩
  · have : zs.getD 7 0 = (sealOf zs).getD 7 0 := by rw [← h]
    rw [this]
    unfold sealOf
    rw [List.getD_eq_getElem?_getD, List.getElem?_set_self (by omega)]; rfl
  · apply List.ext_getElem?
    intro i
    unfold sealOf
    rw [List.getElem?_set]
    by_cases hi : 7 = i
    · subst hi
      rw [if_pos rfl, if_pos (by omega), ← h, List.getD_eq_getElem?_getD, List.getElem?_eq_getElem (by omega)]; rfl
    · rw [if_neg hi]
theorem good_seal' (zs : List Int) (hl : zs.length = 8) : decide (sealOf zs = zs) = goodB zs := by
  rw [← good_seal zs hl]; exact decide_eq_decide.2 eq_comm
theorem bytes_set7 (zs : List Int) (x : Int) : (bytesOf (zs.set 7 x)).take 56 = (bytesOf zs).take 56 := by
  apply List.ext_getElem?
  intro n
  rw [List.getElem?_take, List.getElem?_take]
  by_cases hn : n < 56
  · rw [if_pos hn, if_pos hn]
    unfold bytesOf
    rw [List.getElem?_map, List.getElem?_map, List.getElem?_range (by omega)]
    show some _ = some _
    unfold byteAt
    rw [List.getD_eq_getElem?_getD, List.getD_eq_getElem?_getD, List.getElem?_set, if_neg (by omega)]
  · rw [if_neg hn, if_neg hn]
theorem sealW_set (zs : List Int) (x : Int) : sealW (zs.set 7 x) = sealW zs := by unfold sealW; rw [bytes_set7]
theorem seal_twice (zs : List Int) : sealOf (sealOf zs) = sealOf zs := by
  unfold sealOf
  rw [sealW_set, List.set_set]
theorem good_of_seal (zs : List Int) (hl : zs.length = 8) : goodB (sealOf zs) = true := by
  unfold goodB sealOf
  rw [sealW_set, decide_eq_true_iff, List.getD_eq_getElem?_getD, List.getElem?_set_self (by omega)]; rfl
theorem seal_other (zs : List Int) (i : Nat) (h : i < 7) : (sealOf zs).getD i 0 = zs.getD i 0 := by
  unfold sealOf
  rw [List.getD_eq_getElem?_getD, List.getD_eq_getElem?_getD, List.getElem?_set, if_neg (by omega)]

end Go.Proofs.YtiafhcgaikapcaaGreat


/-
  Superblocks in plain mathematics: which may be, their lines, what a line is read as, which of two counts. No program.
-/
namespace Go.Proofs.YtiafhcgaikapcaaGreat

/-- A superblock is a row of four: generation, root, number, cores. -/
def mayS (s : List Int) : Bool := decide (1 ≤ s.getD 0 0 ∧ s.getD 0 0 ≤ 1099511627776 ∧ 0 ≤ s.getD 1 0 ∧ s.getD 1 0 < 1024 ∧ 0 ≤ s.getD 2 0 ∧ s.getD 2 0 ≤ 1099511627776 ∧ 1 ≤ s.getD 3 0 ∧ s.getD 3 0 ≤ 8)
def rawS (s : List Int) : List Int := [1526644958, s.getD 0 0, s.getD 1 0, s.getD 2 0, s.getD 3 0, 0, 0, 0]
def lineS (s : List Int) : List Int := sealOf (rawS s)
def zs8 : List Int := List.replicate 8 0
def zs4 : List Int := List.replicate 4 0
def lineV (s : List Int) : List Int := if mayS s then lineS s else zs8
def lineE (s : List Int) : Int := if mayS s then 0 else 1
def toI (z : Int) : Int := Go.RowKit.wrap64 z
def readS (l : List Int) : List Int := [toI (l.getD 1 0), toI (l.getD 2 0), toI (l.getD 3 0), toI (l.getD 4 0)]
def isS (l : List Int) : Bool := mayS (readS l) && decide (lineS (readS l) = l)
def readV (l : List Int) : List Int := if isS l then readS l else zs4
def bestB (a b : List Int) : Bool := isS b && (!isS a || decide ((readV b).getD 0 0 > (readV a).getD 0 0))
def bestV (a b : List Int) : List Int := if bestB a b then readV b else readV a
def bestAt (a b : List Int) : Int := if bestB a b then 1 else 0
def bestIs (a b : List Int) : Bool := if bestB a b then true else isS a

theorem mayS_iff (s : List Int) : mayS s = true ↔ 1 ≤ s.getD 0 0 ∧ s.getD 0 0 ≤ 1099511627776 ∧ 0 ≤ s.getD 1 0 ∧ s.getD 1 0 < 1024 ∧ 0 ≤ s.getD 2 0 ∧ s.getD 2 0 ≤ 1099511627776 ∧ 1 ≤ s.getD 3 0 ∧ s.getD 3 0 ≤ 8 := by
  unfold mayS; rw [decide_eq_true_iff]
theorem rawS_len (s : List Int) : (rawS s).length = 8 := rfl
theorem lineS_len (s : List Int) : (lineS s).length = 8 := by rw [lineS, sealOf_len]; rfl
theorem lineV_len (s : List Int) : (lineV s).length = 8 := by
  unfold lineV; split
  · exact lineS_len s
  · rfl
theorem readS_len (l : List Int) : (readS l).length = 4 := rfl
theorem readV_len (l : List Int) : (readV l).length = 4 := by
  unfold readV; split <;> rfl
theorem bestV_len (a b : List Int) : (bestV a b).length = 4 := by
  unfold bestV; split <;> exact readV_len _
theorem toI_small (z : Int) (h0 : 0 ≤ z) (h1 : z ≤ 1099511627776) : toI z = z := by
  unfold toI Go.RowKit.wrap64
  omega
theorem toI_wf (z : Int) : (Lit.int .i64 (toI z)).wf = true := Go.RowKit.wrap64_wf z
theorem four_eq (s : List Int) (h : s.length = 4) : s = [s.getD 0 0, s.getD 1 0, s.getD 2 0, s.getD 3 0] := by
  match s, h with
  | [a, b, c, d], _ => rfl
theorem lineS_get (s : List Int) (i : Nat) (h : i < 7) : (lineS s).getD i 0 = (rawS s).getD i 0 := seal_other _ _ h
/-- A superblock that may be is read from its line as it was. -/
theorem readS_line (s : List Int) (hl : s.length = 4) (hm : mayS s = true) : readS (lineS s) = s := by
  have h := (mayS_iff s).1 hm
  unfold readS
  rw [lineS_get s 1 (by omega), lineS_get s 2 (by omega), lineS_get s 3 (by omega), lineS_get s 4 (by omega)]
  show [toI (s.getD 0 0), toI (s.getD 1 0), toI (s.getD 2 0), toI (s.getD 3 0)] = s
  rw [toI_small _ (by omega) (by omega), toI_small _ (by omega) (by omega), toI_small _ (by omega) (by omega), toI_small _ (by omega) (by omega)]
  exact (four_eq s hl).symm
theorem isS_line (s : List Int) (hl : s.length = 4) (hm : mayS s = true) : isS (lineS s) = true := by
  unfold isS
  rw [readS_line s hl hm, hm]; simp
theorem readV_line (s : List Int) (hl : s.length = 4) (hm : mayS s = true) : readV (lineS s) = s := by
  unfold readV
  rw [if_pos (isS_line s hl hm), readS_line s hl hm]
theorem lineS_seven (s : List Int) : 4294967296 ≤ (lineS s).getD 7 0 := by
  have h := sealW_bd (rawS s)
  unfold lineS sealOf
  rw [List.getD_eq_getElem?_getD, List.getElem?_set_self (by rw [rawS_len]; omega)]
  exact h.1
/-- A line whose last word is nought is none's. -/
theorem isS_nought (l : List Int) (h : l.getD 7 0 = 0) : isS l = false := by
  unfold isS
  rw [Bool.and_eq_false_iff]
  right
  rw [decide_eq_false_iff_not]
  intro he
  have := lineS_seven (readS l)
  rw [he, h] at this
  omega
theorem isS_zeros : isS zs8 = false := isS_nought _ rfl
theorem isS_iff (l : List Int) : isS l = true ↔ mayS (readS l) = true ∧ lineS (readS l) = l := by
  unfold isS; rw [Bool.and_eq_true, decide_eq_true_iff]
theorem lineS_good (s : List Int) : goodB (lineS s) = true := good_of_seal _ (rawS_len s)
/-- Lines of superblocks that may be are the same only if these are. -/
theorem lineS_inj (s t : List Int) (hs : s.length = 4) (ht : t.length = 4) (hm : mayS s = true) (hn : mayS t = true) (h : lineS s = lineS t) : s = t := by
  rw [← readS_line s hs hm, h, readS_line t ht hn]

theorem rawS_wf (s : List Int) (hm : mayS s = true) : ∀ z ∈ rawS s, (Lit.int .u64 z).wf = true := by
  have h := (mayS_iff s).1 hm
  simp only [List.getD_eq_getElem?_getD] at h
  intro z hz
  simp only [rawS, List.mem_cons, List.not_mem_nil, or_false] at hz
  rcases hz with rfl | rfl | rfl | rfl | rfl | rfl | rfl | rfl <;> (simp [Lit.wf, IntKind.min, IntKind.max, IntKind.signed, IntKind.bits]; try omega)

end Go.Proofs.YtiafhcgaikapcaaGreat


/-
  Directories in plain mathematics: rows of entries as rows of integers, leaves and roots as sealed lines, what a line is read as. No program.
-/
namespace Go.Proofs.YtiafhcgaikapcaaGreat
open Go.RowKit
set_option linter.unusedVariables false

/-- The seven entries of the leaf k. -/
def partT (t : List Int) (k : Nat) : List Int := rowE 7 fun i => enAt t (7 * k + i)
theorem partT_len (t : List Int) (k : Nat) : (partT t k).length = 21 := rowE_len 7 _
theorem partT_at (t : List Int) (k i : Nat) (h : i < 7) : enAt (partT t k) i = enAt t (7 * k + i) := rowE_at 7 _ i h

/-! ### seven words, sealed -/
def wUp (g : Nat → Int) (j : Nat) : List Int := (List.range 8).map fun i => if i < j ∧ i < 7 then g i else 0
theorem wUp_len (g : Nat → Int) (j : Nat) : (wUp g j).length = 8 := by simp [wUp]
theorem wUp_get (g : Nat → Int) (j i : Nat) (h : i < 8) : (wUp g j).getD i 0 = if i < j ∧ i < 7 then g i else 0 := by
  unfold wUp; rw [List.getD_eq_getElem?_getD, List.getElem?_map, List.getElem?_range h]; rfl
theorem wUp_zero (g : Nat → Int) : wUp g 0 = zs8 := by
  unfold wUp zs8
  rw [show (fun i => if i < 0 ∧ i < 7 then g i else 0) = fun _ => (0 : Int) from funext fun i => if_neg (by omega)]
  rfl
theorem wUp_set (g : Nat → Int) (j : Nat) (h : j < 7) : (wUp g j).set j (g j) = wUp g (j + 1) :=
  list_ext0 (n := 8) (by simp [wUp_len]) (wUp_len _ _) fun m hm => by
    rw [getD_set _ _ _ _ (by rw [wUp_len]; omega), wUp_get _ _ _ hm, wUp_get _ _ _ hm]
    by_cases a : m = j
    · rw [if_pos a, if_pos (by omega), a]
    · rw [if_neg a]
      by_cases b : m < j ∧ m < 7
      · rw [if_pos b, if_pos (by omega)]
      · rw [if_neg b, if_neg (by omega)]
theorem wUp_ext {g h : Nat → Int} {j : Nat} (e : ∀ i, i < 7 → i < j → g i = h i) : wUp g j = wUp h j := by
  unfold wUp
  apply List.map_congr_left
  intro i _
  by_cases b : i < j ∧ i < 7
  · rw [if_pos b, if_pos b, e i b.2 b.1]
  · rw [if_neg b, if_neg b]
theorem wUp_bd (g : Nat → Int) (j : Nat) (h : ∀ i, i < 7 → i < j → 0 ≤ g i ∧ g i ≤ 18446744073709551615) : ∀ z ∈ wUp g j, 0 ≤ z ∧ z ≤ 18446744073709551615 := by
  intro z hz
  unfold wUp at hz
  rw [List.mem_map] at hz
  obtain ⟨i, -, rfl⟩ := hz
  by_cases b : i < j ∧ i < 7
  · rw [if_pos b]; exact h i b.2 b.1
  · rw [if_neg b]; omega
/-- The line of seven words. -/
def lineG (g : Nat → Int) : List Int := sealOf (wUp g 7)
theorem lineG_len (g : Nat → Int) : (lineG g).length = 8 := by unfold lineG; rw [sealOf_len, wUp_len]
theorem lineG_get (g : Nat → Int) (i : Nat) (h : i < 7) : (lineG g).getD i 0 = g i := by
  unfold lineG; rw [seal_other _ _ h, wUp_get _ _ _ (by omega), if_pos ⟨h, h⟩]
theorem lineG_good (g : Nat → Int) : goodB (lineG g) = true := good_of_seal _ (wUp_len _ _)
theorem lineG_ext {g h : Nat → Int} (e : ∀ i, i < 7 → g i = h i) : lineG g = lineG h := by
  unfold lineG; rw [wUp_ext fun i h7 _ => e i h7]
theorem lineG_self (l : List Int) (hl : l.length = 8) : lineG (fun i => l.getD i 0) = sealOf l := by
  have h : wUp (fun i => l.getD i 0) 7 = l.set 7 0 := list_ext0 (n := 8) (wUp_len _ _) (by simp [hl]) fun m hm => by
    rw [wUp_get _ _ _ hm, getD_set _ _ _ _ (by omega)]
    by_cases a : m = 7
    · rw [if_neg (by omega), if_pos a]
    · rw [if_pos (by omega), if_neg a]
  unfold lineG
  rw [h]
  unfold sealOf
  rw [sealW_set, List.set_set]
theorem lineG_eq_iff (g : Nat → Int) (l : List Int) (hl : l.length = 8) : lineG g = l ↔ (∀ i, i < 7 → g i = l.getD i 0) ∧ goodB l = true := by
  constructor
  · intro h
    refine ⟨fun i hi => by rw [← h, lineG_get g i hi], by rw [← h]; exact lineG_good g⟩
  · rintro ⟨h1, h2⟩
    rw [lineG_ext h1, lineG_self l hl]
    have := good_seal' l hl
    rw [h2] at this
    exact of_decide_eq_true this

/-! ### leaves -/
def mayX (x : List Int) : Bool := (List.range 7).all fun i => mayN (enAt x i)
theorem mayX_iff (x : List Int) : mayX x = true ↔ ∀ i, i < 7 → mayN (enAt x i) = true := by
  unfold mayX; rw [List.all_eq_true]; simp
theorem mayX_not (x : List Int) (i : Nat) (h : i < 7) (hn : mayN (enAt x i) = false) : mayX x = false := by
  cases hm : mayX x with
  | false => rfl
  | true => rw [(mayX_iff x).1 hm i h] at hn; cases hn
def leafS (x : List Int) : List Int := lineG fun i => wordN (enAt x i)
def leafV (x : List Int) : List Int := if mayX x then leafS x else zs8
def leafE (x : List Int) : Int := if mayX x then 0 else 1
theorem leafV_len (x : List Int) : (leafV x).length = 8 := by unfold leafV; split; exact lineG_len _; rfl
def leafKV (t : List Int) (k : Int) : List Int := if 0 ≤ k ∧ k < 7 then leafV (partT t k.toNat) else zs8
def leafKE (t : List Int) (k : Int) : Int := if 0 ≤ k ∧ k < 7 then leafE (partT t k.toNat) else 1
theorem leafKV_len (t : List Int) (k : Int) : (leafKV t k).length = 8 := by unfold leafKV; split; exact leafV_len _; rfl
def allN (l : List Int) : Bool := (List.range 7).all fun i => isN (l.getD i 0)
theorem allN_iff (l : List Int) : allN l = true ↔ ∀ i, i < 7 → isN (l.getD i 0) = true := by
  unfold allN; rw [List.all_eq_true]; simp
theorem allN_not (l : List Int) (i : Nat) (h : i < 7) (hn : isN (l.getD i 0) = false) : allN l = false := by
  cases hm : allN l with
  | false => rfl
  | true => rw [(allN_iff l).1 hm i h] at hn; cases hn
def readX (l : List Int) : List Int := rowE 7 fun i => onV (l.getD i 0)
def isX (l : List Int) : Bool := allN l && goodB l
def readXV (l : List Int) : List Int := if isX l then readX l else zrow 7
theorem readX_len (l : List Int) : (readX l).length = 21 := rowE_len 7 _
theorem readXV_len (l : List Int) : (readXV l).length = 21 := by unfold readXV; split; exact readX_len l; exact zrow_len 7
theorem readX_may (l : List Int) (h : allN l = true) : mayX (readX l) = true := by
  rw [mayX_iff]
  intro i hi
  unfold readX
  have hn := (allN_iff l).1 h i hi
  rw [rowE_at 7 _ i hi, onV_is _ hn]
  exact (isN_may _ hn).1
theorem readX_leaf (l : List Int) (hl : l.length = 8) (h : allN l = true) : leafS (readX l) = sealOf l := by
  rw [← lineG_self l hl]
  apply lineG_ext
  intro i hi
  have hn := (allN_iff l).1 h i hi
  unfold readX
  rw [rowE_at 7 _ i hi, onV_is _ hn]
  exact (isN_may _ hn).2
theorem leaf_back (x : List Int) (hl : x.length = 21) (hm : mayX x = true) : isX (leafS x) = true ∧ readXV (leafS x) = x := by
  have hg : ∀ i, i < 7 → (leafS x).getD i 0 = wordN (enAt x i) := fun i hi => lineG_get _ i hi
  have hi : isX (leafS x) = true := by
    unfold isX
    rw [show goodB (leafS x) = true from lineG_good _, Bool.and_true, allN_iff]
    intro i hi
    rw [hg i hi]
    exact isN_word _ ((mayX_iff x).1 hm i hi)
  refine ⟨hi, ?_⟩
  unfold readXV
  rw [if_pos hi, ← row_en x 7 hl]
  apply rowE_ext
  intro i h7
  show onV ((leafS (rowE 7 (enAt x))).getD i 0) = _
  rw [row_en x 7 hl, hg i h7, onV_word _ ((mayX_iff x).1 hm i h7)]

/-! ### roots -/
def zs7 : List Int := List.replicate 7 0
def mayT (n : List Int) : Bool := (List.range 7).all fun i => decide (0 ≤ n.getD i 0 ∧ n.getD i 0 < 1024)
theorem mayT_iff (n : List Int) : mayT n = true ↔ ∀ i, i < 7 → 0 ≤ n.getD i 0 ∧ n.getD i 0 < 1024 := by
  unfold mayT; rw [List.all_eq_true]; simp
theorem mayT_not (n : List Int) (i : Nat) (h : i < 7) (hn : ¬ (0 ≤ n.getD i 0 ∧ n.getD i 0 < 1024)) : mayT n = false := by
  cases hm : mayT n with
  | false => rfl
  | true => exact absurd ((mayT_iff n).1 hm i h) hn
def rootS (n : List Int) : List Int := lineG fun i => 4294967296 + n.getD i 0
def rootV (n : List Int) : List Int := if mayT n then rootS n else zs8
def rootE (n : List Int) : Int := if mayT n then 0 else 1
theorem rootV_len (n : List Int) : (rootV n).length = 8 := by unfold rootV; split; exact lineG_len _; rfl
def tab7 (g : Nat → Int) : List Int := (List.range 7).map g
theorem tab7_len (g : Nat → Int) : (tab7 g).length = 7 := by simp [tab7]
theorem tab7_get (g : Nat → Int) (i : Nat) (h : i < 7) : (tab7 g).getD i 0 = g i := by
  unfold tab7; rw [List.getD_eq_getElem?_getD, List.getElem?_map, List.getElem?_range h]; rfl
theorem tab7_ext {g h : Nat → Int} (e : ∀ i, i < 7 → g i = h i) : tab7 g = tab7 h := by
  unfold tab7; apply List.map_congr_left; intro i hi; exact e i (by simpa using hi)
theorem tab7_self (n : List Int) (hl : n.length = 7) : tab7 (fun i => n.getD i 0) = n := list_ext0 (tab7_len _) hl fun m hm => tab7_get _ m hm
theorem tab7_set (g : Nat → Int) (j : Nat) (h : j < 7) : (tab7 fun i => if i < j then g i else 0).set j (g j) = tab7 fun i => if i < j + 1 then g i else 0 :=
  list_ext0 (n := 7) (by simp [tab7_len]) (tab7_len _) fun m hm => by
    rw [getD_set _ _ _ _ (by rw [tab7_len]; omega), tab7_get _ _ hm, tab7_get _ _ hm]
    by_cases a : m = j
    · rw [if_pos a, if_pos (by omega), a]
    · rw [if_neg a]
      by_cases b : m < j
      · rw [if_pos b, if_pos (by omega)]
      · rw [if_neg b, if_neg (by omega)]
theorem tab7_zero (g : Nat → Int) : (tab7 fun i => if i < 0 then g i else 0) = zs7 := by
  unfold tab7 zs7
  rw [show (fun i => if i < 0 then g i else 0) = fun _ => (0 : Int) from funext fun i => if_neg (by omega)]
  rfl
theorem tab7_all (g : Nat → Int) : (tab7 fun i => if i < 7 then g i else 0) = tab7 g := tab7_ext fun i hi => if_pos hi
def readT (l : List Int) : List Int := tab7 fun i => l.getD i 0 - 4294967296
def isT (l : List Int) : Bool := ((List.range 7).all fun i => decide (4294967296 ≤ l.getD i 0 ∧ l.getD i 0 < 4294968320)) && goodB l
theorem isT_iff (l : List Int) : isT l = true ↔ (∀ i, i < 7 → 4294967296 ≤ l.getD i 0 ∧ l.getD i 0 < 4294968320) ∧ goodB l = true := by
  unfold isT; rw [Bool.and_eq_true, List.all_eq_true]; simp
def readTV (l : List Int) : List Int := if isT l then readT l else zs7
theorem readTV_len (l : List Int) : (readTV l).length = 7 := by unfold readTV; split; exact tab7_len _; rfl
/-- What the program reads, ahead of its test. -/
def rawT (l : List Int) : List Int := tab7 fun i => wrap64 (IntKind.u64.wrap (l.getD i 0 - 4294967296))
/-- What the document reads, ahead of its test. -/
def modT (l : List Int) : List Int := tab7 fun i => l.getD i 0 % 4294967296
theorem rawT_at (x : Int) (h0 : 0 ≤ x) (h1 : x ≤ 18446744073709551615) : (0 ≤ wrap64 (IntKind.u64.wrap (x - 4294967296)) ∧ wrap64 (IntKind.u64.wrap (x - 4294967296)) < 1024) ↔ (4294967296 ≤ x ∧ x < 4294968320) := by
  have e : IntKind.u64.wrap (x - 4294967296) = (x - 4294967296) % 18446744073709551616 := by
    simp [IntKind.wrap, IntKind.signed, IntKind.bits]
  rw [e]
  by_cases hb : x < 4294967296
  · rw [show (x - 4294967296) % 18446744073709551616 = x - 4294967296 + 18446744073709551616 by omega]
    simp only [wrap64]
    omega
  · rw [show (x - 4294967296) % 18446744073709551616 = x - 4294967296 by omega]
    simp only [wrap64]
    omega
theorem rawT_val (x : Int) (h0 : 4294967296 ≤ x) (h1 : x < 4294968320) : wrap64 (IntKind.u64.wrap (x - 4294967296)) = x - 4294967296 := by
  have e : IntKind.u64.wrap (x - 4294967296) = (x - 4294967296) % 18446744073709551616 := by
    simp [IntKind.wrap, IntKind.signed, IntKind.bits]
  rw [e, show (x - 4294967296) % 18446744073709551616 = x - 4294967296 by omega]
  simp only [wrap64]
  omega
theorem rawT_may (l : List Int) (hw : ∀ i, 0 ≤ l.getD i 0 ∧ l.getD i 0 ≤ 18446744073709551615) : mayT (rawT l) = true ↔ ∀ i, i < 7 → 4294967296 ≤ l.getD i 0 ∧ l.getD i 0 < 4294968320 := by
  rw [mayT_iff]
  constructor
  · intro h i hi
    have := h i hi
    unfold rawT at this
    rw [tab7_get _ i hi] at this
    exact (rawT_at _ (hw i).1 (hw i).2).1 this
  · intro h i hi
    unfold rawT
    rw [tab7_get _ i hi]
    exact (rawT_at _ (hw i).1 (hw i).2).2 (h i hi)
theorem rawT_read (l : List Int) (h : ∀ i, i < 7 → 4294967296 ≤ l.getD i 0 ∧ l.getD i 0 < 4294968320) : rawT l = readT l := tab7_ext fun i hi => rawT_val _ (h i hi).1 (h i hi).2
theorem readT_root (l : List Int) (hl : l.length = 8) : rootS (readT l) = sealOf l := by
  rw [← lineG_self l hl]
  apply lineG_ext
  intro i hi
  show 4294967296 + (readT l).getD i 0 = l.getD i 0
  unfold readT
  rw [tab7_get _ i hi]; omega
/-- The program's test. -/
theorem rawT_test (l : List Int) (hl : l.length = 8) (hw : ∀ i, 0 ≤ l.getD i 0 ∧ l.getD i 0 ≤ 18446744073709551615) (hm : mayT (rawT l) = true) : rawT l = readT l ∧ decide (rootS (rawT l) = l) = isT l := by
  have h := (rawT_may l hw).1 hm
  have e := rawT_read l h
  refine ⟨e, ?_⟩
  rw [e, readT_root l hl, good_seal' l hl, Bool.eq_iff_iff, isT_iff]
  exact ⟨fun g => ⟨h, g⟩, fun g => g.2⟩
theorem rawT_none (l : List Int) (hw : ∀ i, 0 ≤ l.getD i 0 ∧ l.getD i 0 ≤ 18446744073709551615) (hm : mayT (rawT l) = false) : isT l = false := by
  cases hi : isT l with
  | false => rfl
  | true => rw [(rawT_may l hw).2 ((isT_iff l).1 hi).1] at hm; cases hm
/-- The document's test. -/
theorem modT_test (l : List Int) (hl : l.length = 8) (hm : mayT (modT l) = true) : decide (rootS (modT l) = l) = isT l := by
  have h := (mayT_iff _).1 hm
  rw [Bool.eq_iff_iff, decide_eq_true_iff, isT_iff]
  unfold rootS
  rw [lineG_eq_iff _ l hl]
  constructor
  · rintro ⟨h1, h2⟩
    refine ⟨fun i hi => ?_, h2⟩
    have := h1 i hi
    have h' := h i hi
    omega
  · rintro ⟨h1, h2⟩
    refine ⟨fun i hi => ?_, h2⟩
    have := h1 i hi
    unfold modT
    rw [tab7_get _ i hi]; omega
theorem modT_read (l : List Int) (h : isT l = true) : modT l = readT l := tab7_ext fun i hi => by
  have := ((isT_iff l).1 h).1 i hi
  show l.getD i 0 % 4294967296 = l.getD i 0 - 4294967296
  omega
theorem modT_none (l : List Int) (hm : mayT (modT l) = false) : isT l = false := by
  cases hi : isT l with
  | false => rfl
  | true =>
    have := ((isT_iff l).1 hi).1
    rw [(mayT_iff (modT l)).2 fun i h => by unfold modT; rw [tab7_get _ i h]; have := this i h; omega] at hm; cases hm
theorem root_back (n : List Int) (hl : n.length = 7) (hm : mayT n = true) : isT (rootS n) = true ∧ readTV (rootS n) = n := by
  have hg : ∀ i, i < 7 → (rootS n).getD i 0 = 4294967296 + n.getD i 0 := fun i hi => lineG_get _ i hi
  have hi : isT (rootS n) = true := by
    rw [isT_iff]
    refine ⟨fun i h => ?_, lineG_good _⟩
    rw [hg i h]
    have := (mayT_iff n).1 hm i h
    omega
  refine ⟨hi, ?_⟩
  unfold readTV
  rw [if_pos hi]
  rw [← tab7_self n hl]
  apply tab7_ext
  intro i h
  show (rootS (tab7 fun i => n.getD i 0)).getD i 0 - 4294967296 = n.getD i 0
  rw [tab7_self n hl, hg i h]; omega

/-! ### what differs -/
def dfB (a b : List Int) (k : Nat) : Bool := decide (partT a k ≠ partT b k)
def dfTo (a b : List Int) (j : Nat) : List Int := ((List.range j).filter fun k => dfB a b k).map fun k : Nat => (k : Int)
theorem dfTo_succ (a b : List Int) (j : Nat) : dfTo a b (j + 1) = if dfB a b j then dfTo a b j ++ [(j : Int)] else dfTo a b j := by
  unfold dfTo
  rw [List.range_succ, List.filter_append]
  cases h : dfB a b j
  · simp [h]
  · simp [h]
theorem dfTo_len (a b : List Int) (j : Nat) : (dfTo a b j).length ≤ j := by
  unfold dfTo
  rw [List.length_map]
  exact Nat.le_trans (List.length_filter_le _ _) (by simp)


end Go.Proofs.YtiafhcgaikapcaaGreat
