
/-
  Superblocks in plain mathematics: which may be, their lines, what a line is read as, which of two counts. No program.
-/
import Derived.Test.YtnjicfnigfkppabCLineMath
import Derived.Test.YtnjicfnigfkppabRows2
namespace Go.Proofs.Ytnjicfnigfkppab

/-- A superblock is a row of four: generation, root, number, cores. -/
def mayS (s : List Int) : Bool := decide (1 ≤ s.getD 0 0 ∧ s.getD 0 0 ≤ 1099511627776 ∧ 0 ≤ s.getD 1 0 ∧ s.getD 1 0 < 1024 ∧ 0 ≤ s.getD 2 0 ∧ s.getD 2 0 ≤ 1099511627776 ∧ 1 ≤ s.getD 3 0 ∧ s.getD 3 0 ≤ 8)
def rawS (s : List Int) : List Int := [1526644958, s.getD 0 0, s.getD 1 0, s.getD 2 0, s.getD 3 0, 0, 0, 0]
def lineS (s : List Int) : List Int := sealOf (rawS s)
def zs8 : List Int := List.replicate 8 0
def zs4 : List Int := List.replicate 4 0
def lineV (s : List Int) : List Int := if mayS s then lineS s else zs8
def lineE (s : List Int) : Int := if mayS s then 0 else 1
def toI (z : Int) : Int := Go.RowKit.wrap64 z
def readS (l : List Int) : List Int := [toI (l.getD 1 0), toI (l.getD 2 0), toI (l.getD 3 0), toI (l.getD 4 0)]
def isS (l : List Int) : Bool := mayS (readS l) && decide (lineS (readS l) = l)
def readV (l : List Int) : List Int := if isS l then readS l else zs4
def bestB (a b : List Int) : Bool := isS b && (!isS a || decide ((readV b).getD 0 0 > (readV a).getD 0 0))
def bestV (a b : List Int) : List Int := if bestB a b then readV b else readV a
def bestAt (a b : List Int) : Int := if bestB a b then 1 else 0
def bestIs (a b : List Int) : Bool := if bestB a b then true else isS a

theorem mayS_iff (s : List Int) : mayS s = true ↔ 1 ≤ s.getD 0 0 ∧ s.getD 0 0 ≤ 1099511627776 ∧ 0 ≤ s.getD 1 0 ∧ s.getD 1 0 < 1024 ∧ 0 ≤ s.getD 2 0 ∧ s.getD 2 0 ≤ 1099511627776 ∧ 1 ≤ s.getD 3 0 ∧ s.getD 3 0 ≤ 8 := by
  unfold mayS; rw [decide_eq_true_iff]
theorem rawS_len (s : List Int) : (rawS s).length = 8 := rfl
theorem lineS_len (s : List Int) : (lineS s).length = 8 := by rw [lineS, sealOf_len]; rfl
theorem lineV_len (s : List Int) : (lineV s).length = 8 := by
  unfold lineV; split
  · exact lineS_len s
  · rfl
theorem readS_len (l : List Int) : (readS l).length = 4 := rfl
theorem readV_len (l : List Int) : (readV l).length = 4 := by
  unfold readV; split <;> rfl
theorem bestV_len (a b : List Int) : (bestV a b).length = 4 := by
  unfold bestV; split <;> exact readV_len _
theorem toI_small (z : Int) (h0 : 0 ≤ z) (h1 : z ≤ 1099511627776) : toI z = z := by
  unfold toI Go.RowKit.wrap64
  omega
theorem toI_wf (z : Int) : (Lit.int .i64 (toI z)).wf = true := Go.RowKit.wrap64_wf z
theorem four_eq (s : List Int) (h : s.length = 4) : s = [s.getD 0 0, s.getD 1 0, s.getD 2 0, s.getD 3 0] := by
  match s, h with
  | [a, b, c, d], _ => rfl
theorem lineS_get (s : List Int) (i : Nat) (h : i < 7) : (lineS s).getD i 0 = (rawS s).getD i 0 := seal_other _ _ h
/-- A superblock that may be is read from its line as it was. -/
theorem readS_line (s : List Int) (hl : s.length = 4) (hm : mayS s = true) : readS (lineS s) = s := by
  have h := (mayS_iff s).1 hm
  unfold readS
  rw [lineS_get s 1 (by omega), lineS_get s 2 (by omega), lineS_get s 3 (by omega), lineS_get s 4 (by omega)]
  show [toI (s.getD 0 0), toI (s.getD 1 0), toI (s.getD 2 0), toI (s.getD 3 0)] = s
  rw [toI_small _ (by omega) (by omega), toI_small _ (by omega) (by omega), toI_small _ (by omega) (by omega), toI_small _ (by omega) (by omega)]
  exact (four_eq s hl).symm
theorem isS_line (s : List Int) (hl : s.length = 4) (hm : mayS s = true) : isS (lineS s) = true := by
  unfold isS
  rw [readS_line s hl hm, hm]; simp
theorem readV_line (s : List Int) (hl : s.length = 4) (hm : mayS s = true) : readV (lineS s) = s := by
  unfold readV
  rw [if_pos (isS_line s hl hm), readS_line s hl hm]
theorem lineS_seven (s : List Int) : 4294967296 ≤ (lineS s).getD 7 0 := by
  have h := sealW_bd (rawS s)
  unfold lineS sealOf
  rw [List.getD_eq_getElem?_getD, List.getElem?_set_self (by rw [rawS_len]; omega)]
  exact h.1
/-- A line whose last word is nought is none's. -/
theorem isS_nought (l : List Int) (h : l.getD 7 0 = 0) : isS l = false := by
  unfold isS
  rw [Bool.and_eq_false_iff]
  right
  rw [decide_eq_false_iff_not]
  intro he
  have := lineS_seven (readS l)
  rw [he, h] at this
  omega
theorem isS_zeros : isS zs8 = false := isS_nought _ rfl
theorem isS_iff (l : List Int) : isS l = true ↔ mayS (readS l) = true ∧ lineS (readS l) = l := by
  unfold isS; rw [Bool.and_eq_true, decide_eq_true_iff]
theorem lineS_good (s : List Int) : goodB (lineS s) = true := good_of_seal _ (rawS_len s)
/-- Lines of superblocks that may be are the same only if these are. -/
theorem lineS_inj (s t : List Int) (hs : s.length = 4) (ht : t.length = 4) (hm : mayS s = true) (hn : mayS t = true) (h : lineS s = lineS t) : s = t := by
  rw [← readS_line s hs hm, h, readS_line t ht hn]

theorem rawS_wf (s : List Int) (hm : mayS s = true) : ∀ z ∈ rawS s, (Lit.int .u64 z).wf = true := by
  have h := (mayS_iff s).1 hm
  simp only [List.getD_eq_getElem?_getD] at h
  intro z hz
  simp only [rawS, List.mem_cons, List.not_mem_nil, or_false] at hz
  rcases hz with rfl | rfl | rfl | rfl | rfl | rfl | rfl | rfl <;> (simp [Lit.wf, IntKind.min, IntKind.max, IntKind.signed, IntKind.bits]; try omega)

end Go.Proofs.Ytnjicfnigfkppab
