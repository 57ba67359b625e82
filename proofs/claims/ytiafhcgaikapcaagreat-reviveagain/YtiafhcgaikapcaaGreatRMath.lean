
/-
  Records in plain mathematics: which may be, their lines, what a line is read as. No program.
-/
import Derived.Test.YtiafhcgaikapcaaGreatPkCr
import Derived.Test.YtiafhcgaikapcaaGreatCTurnMath
import Derived.Test.YtiafhcgaikapcaaGreatPkCs
namespace Go.Proofs.YtiafhcgaikapcaaGreat

/-- A record: number, object, word, value. -/
structure Rc where
  q : Int
  d : Int
  o : Int
  v : Int
instance : Inhabited Rc := ⟨⟨0, 0, 0, 0⟩⟩
instance : DecidableEq Rc := fun a b => decidable_of_iff (a.q = b.q ∧ a.d = b.d ∧ a.o = b.o ∧ a.v = b.v) (by
  cases a; cases b; simp)
def zr : Rc := ⟨0, 0, 0, 0⟩
def Rc.ok (r : Rc) : Prop := 0 ≤ r.v ∧ r.v ≤ 18446744073709551615
/-- Its cells. -/
def rv (r : Rc) : Array Value := #[.int .i64 r.q, .int .i64 r.d, .int .i64 r.o, .int .u64 r.v]
theorem rv_size (r : Rc) : (rv r).size = 4 := rfl
theorem rv_one (r : Rc) : (rv r).all (·.oneCell') = true := by simp [rv, Value.oneCell']
def mayR (r : Rc) : Bool := decide (1 ≤ r.q ∧ r.q ≤ 1099511627776 ∧ 0 ≤ r.d ∧ r.d < 49 ∧ 0 ≤ r.o ∧ r.o < 8)
def rawR (r : Rc) : List Int := [274726912, r.q, r.d, r.o, r.v, 0, 0, 0]
def lineR (r : Rc) : List Int := sealOf (rawR r)
def lineRV (r : Rc) : List Int := if mayR r then lineR r else zs8
def lineRE (r : Rc) : Int := if mayR r then 0 else 1
def readR (l : List Int) : Rc := ⟨toI (l.getD 1 0), toI (l.getD 2 0), toI (l.getD 3 0), l.getD 4 0⟩
def isR (l : List Int) : Bool := mayR (readR l) && decide (lineR (readR l) = l)
def readRV (l : List Int) : Rc := if isR l then readR l else zr

theorem mayR_iff (r : Rc) : mayR r = true ↔ 1 ≤ r.q ∧ r.q ≤ 1099511627776 ∧ 0 ≤ r.d ∧ r.d < 49 ∧ 0 ≤ r.o ∧ r.o < 8 := by
  unfold mayR; rw [decide_eq_true_iff]
theorem rawR_len (r : Rc) : (rawR r).length = 8 := rfl
theorem lineR_len (r : Rc) : (lineR r).length = 8 := by rw [lineR, sealOf_len]; rfl
theorem lineRV_len (r : Rc) : (lineRV r).length = 8 := by
  unfold lineRV; split
  · exact lineR_len r
  · rfl
theorem lineRV_may (r : Rc) (h : mayR r = true) : lineRV r = lineR r := by simp [lineRV, h]
theorem lineRE_may (r : Rc) (h : mayR r = true) : lineRE r = 0 := by simp [lineRE, h]
theorem lineRE_not (r : Rc) (h : mayR r = false) : lineRE r = 1 := by simp [lineRE, h]
theorem lineR_get (r : Rc) (i : Nat) (h : i < 7) : (lineR r).getD i 0 = (rawR r).getD i 0 := seal_other _ _ h
/-- A record that may be is read from its line as it was. -/
theorem readR_line (r : Rc) (hm : mayR r = true) : readR (lineR r) = r := by
  have h := (mayR_iff r).1 hm
  unfold readR
  rw [lineR_get r 1 (by omega), lineR_get r 2 (by omega), lineR_get r 3 (by omega), lineR_get r 4 (by omega)]
  show (⟨toI r.q, toI r.d, toI r.o, r.v⟩ : Rc) = r
  rw [toI_small _ (by omega) (by omega), toI_small _ (by omega) (by omega), toI_small _ (by omega) (by omega)]
theorem isR_line (r : Rc) (hm : mayR r = true) : isR (lineR r) = true := by
  unfold isR
  rw [readR_line r hm, hm]; simp
theorem readRV_line (r : Rc) (hm : mayR r = true) : readRV (lineR r) = r := by
  unfold readRV
  rw [if_pos (isR_line r hm), readR_line r hm]
theorem lineR_seven (r : Rc) : 4294967296 ≤ (lineR r).getD 7 0 := by
  have h := sealW_bd (rawR r)
  unfold lineR sealOf
  rw [List.getD_eq_getElem?_getD, List.getElem?_set_self (by rw [rawR_len]; omega)]
  exact h.1
/-- A line whose last word is nought is none's. -/
theorem isR_nought (l : List Int) (h : l.getD 7 0 = 0) : isR l = false := by
  unfold isR
  rw [Bool.and_eq_false_iff]
  right
  rw [decide_eq_false_iff_not]
  intro he
  have := lineR_seven (readR l)
  rw [he, h] at this
  omega
theorem isR_zeros : isR zs8 = false := isR_nought _ rfl
theorem isR_iff (l : List Int) : isR l = true ↔ mayR (readR l) = true ∧ lineR (readR l) = l := by
  unfold isR; rw [Bool.and_eq_true, decide_eq_true_iff]
theorem readRV_may (l : List Int) (h : isR l = true) : mayR (readRV l) = true := by
  unfold readRV; rw [if_pos h]; exact ((isR_iff l).1 h).1
theorem lineR_good (r : Rc) : goodB (lineR r) = true := good_of_seal _ (rawR_len r)
theorem lineR_inj (r t : Rc) (hm : mayR r = true) (hn : mayR t = true) (h : lineR r = lineR t) : r = t := by
  rw [← readR_line r hm, h, readR_line t hn]
theorem rawR_wf (r : Rc) (hv : r.ok) (hm : mayR r = true) : ∀ z ∈ rawR r, (Lit.int .u64 z).wf = true := by
  have h := (mayR_iff r).1 hm
  unfold Rc.ok at hv
  intro z hz
  simp only [rawR, List.mem_cons, List.not_mem_nil, or_false] at hz
  rcases hz with rfl | rfl | rfl | rfl | rfl | rfl | rfl | rfl <;> (simp [Lit.wf, IntKind.min, IntKind.max, IntKind.signed, IntKind.bits]; try omega)
theorem zs8_wfR : ∀ z ∈ zs8, (Lit.int .u64 z).wf = true := by decide
theorem lineRV_wf (r : Rc) (hv : r.ok) : ∀ z ∈ lineRV r, (Lit.int .u64 z).wf = true := by
  unfold lineRV
  split
  · rename_i h; exact sealOf_wf _ (rawR_wf r hv h)
  · exact zs8_wfR
theorem readR_ok (l : List Int) (hw : ∀ z ∈ l, (Lit.int .u64 z).wf = true) : (readR l).ok := by
  unfold readR Rc.ok
  show 0 ≤ l.getD 4 0 ∧ l.getD 4 0 ≤ _
  rw [List.getD_eq_getElem?_getD]
  cases h : l[4]? with
  | none => simp
  | some z =>
    have := hw z (List.mem_of_getElem? h)
    simp [Lit.wf, IntKind.min, IntKind.max, IntKind.signed, IntKind.bits] at this ⊢; omega
theorem readRV_ok (l : List Int) (hw : ∀ z ∈ l, (Lit.int .u64 z).wf = true) : (readRV l).ok := by
  unfold readRV; split
  · exact readR_ok l hw
  · exact ⟨by decide, by decide⟩

/-- A line of a record of which bits of one byte are turned is none's. -/
theorem none_turnedR (r : Rc) (hv : r.ok) (hm : mayR r = true) (p : Nat) (hp : p < 64) (v : Int) (hb : 0 ≤ v ∧ v ≤ 255) (hne : v ≠ (bytesOf (lineR r)).getD p 0) : isR (lineOf ((bytesOf (lineR r)).set p v)) = false := by
  have hg : goodB (lineOf ((bytesOf (lineR r)).set p v)) = false := good_turned (rawR r) rfl (wfs_u64 (sealOf_wf (rawR r) (rawR_wf r hv hm))) p hp v hb hne
  cases h : isR (lineOf ((bytesOf (lineR r)).set p v))
  · rfl
  · have h2 := ((isR_iff _).1 h).2
    rw [← h2, lineR_good] at hg
    exact hg
theorem same_lineR (r t : Rc) (hm : mayR r = true) (hn : mayR t = true) : decide (lineR r = lineR t) = decide (r = t) := by
  by_cases h : r = t
  · simp [h]
  · have : lineR r ≠ lineR t := fun e => h (lineR_inj r t hm hn e)
    simp [h, this]

end Go.Proofs.YtiafhcgaikapcaaGreat
