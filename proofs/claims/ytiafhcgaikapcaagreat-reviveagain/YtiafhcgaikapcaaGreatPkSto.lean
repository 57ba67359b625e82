import Derived.Test.YtiafhcgaikapcaaGreatPkNvm
import Derived.Test.YtiafhcgaikapcaaGreatFMath
import Derived.Test.YtiafhcgaikapcaaGreatPkEn
import Derived.Test.YtiafhcgaikapcaaGreatFCalls
import Derived.Deep.QuietTactic
import Derived.BigQuiet
import Derived.BigRegion
import Derived.Deep.Cut
import Derived.Test.YtiafhcgaikapcaaGreatHeld

/-
  A store of objects in plain mathematics: its frames, its tables, its Dir, and what each of its calls makes of it and of the memory beneath it. No program.
-/
namespace Go.Proofs.YtiafhcgaikapcaaGreat
set_option linter.unusedVariables false

/-- Frames; the working table, the base, its Dir; what is marked (noughts, if nothing is), and whether something is. -/
structure Sto where
  F : Fr
  w : Nat → En
  b : Nat → En
  d : Nat → Int
  k : Nat → En
  is : Bool

def v24 (z : Int) : Prop := 0 ≤ z ∧ z ≤ 16777215
def Sto.ok (S : Sto) : Prop := S.F.ok ∧ ∀ i, i < 49 → v24 (S.w i).v

/-- An object of the table lies in the line z. -/
def atB (x : En) (z : Int) : Bool := decide (x.k ≠ 0 ∧ x.l = z)
theorem atB_iff (x : En) (z : Int) : atB x z = true ↔ x.k ≠ 0 ∧ x.l = z := by unfold atB; rw [decide_eq_true_iff]
theorem atB_no {x : En} {z : Int} (h : ¬ (x.k ≠ 0 ∧ x.l = z)) : atB x z = false := by unfold atB; exact decide_eq_false h
def hasTo (f : Nat → En) (z : Int) (j : Nat) : Bool := (List.range j).any fun i => atB (f i) z
def hasB (f : Nat → En) (z : Int) : Bool := hasTo f z 49
theorem hasTo_iff (f : Nat → En) (z : Int) (j : Nat) : hasTo f z j = true ↔ ∃ i, i < j ∧ (f i).k ≠ 0 ∧ (f i).l = z := by
  unfold hasTo
  rw [List.any_eq_true]
  constructor
  · rintro ⟨i, hi, h⟩; exact ⟨i, List.mem_range.1 hi, (atB_iff _ _).1 h⟩
  · rintro ⟨i, hi, h⟩; exact ⟨i, List.mem_range.2 hi, (atB_iff _ _).2 h⟩
theorem hasB_iff (f : Nat → En) (z : Int) : hasB f z = true ↔ ∃ i, i < 49 ∧ (f i).k ≠ 0 ∧ (f i).l = z := hasTo_iff f z 49
theorem hasTo_zero (f : Nat → En) (z : Int) : hasTo f z 0 = false := rfl
theorem hasTo_next (f : Nat → En) (z : Int) (j : Nat) : hasTo f z (j + 1) = (hasTo f z j || atB (f j) z) := by
  unfold hasTo
  rw [List.range_succ, List.any_append]
  simp
theorem hasB_of {f : Nat → En} {z : Int} {j : Nat} (hj : j < 49) (h : atB (f j) z = true) : hasB f z = true := (hasB_iff f z).2 ⟨j, hj, (atB_iff _ _).1 h⟩
theorem hasB_ze (z : Int) : hasB (fun _ => ze) z = false := by
  rcases Bool.eq_false_or_eq_true (hasB (fun _ => ze) z) with h | h
  · obtain ⟨i, _, h1, _⟩ := (hasB_iff _ _).1 h; exact absurd rfl h1
  · exact h
theorem hasB_no {f : Nat → En} {z : Int} (h : hasB f z = false) (i : Nat) (hi : i < 49) (hk : (f i).k ≠ 0) : (f i).l ≠ z := fun e => by
  rw [(hasB_iff f z).2 ⟨i, hi, hk, e⟩] at h; cases h
theorem hasB_ext {f g : Nat → En} (h : ∀ i, i < 49 → f i = g i) (z : Int) : hasB f z = hasB g z := by
  rw [Bool.eq_iff_iff, hasB_iff, hasB_iff]
  constructor
  · rintro ⟨i, hi, h1, h2⟩; exact ⟨i, hi, by rw [← h i hi]; exact h1, by rw [← h i hi]; exact h2⟩
  · rintro ⟨i, hi, h1, h2⟩; exact ⟨i, hi, by rw [h i hi]; exact h1, by rw [h i hi]; exact h2⟩
def Sto.own (S : Sto) (z : Int) : Bool := !hasB S.b z && !hasB S.k z
theorem own_iff (S : Sto) (z : Int) : S.own z = true ↔ hasB S.b z = false ∧ hasB S.k z = false := by unfold Sto.own; simp
def Sto.findE (S : Sto) (z : Int) : Int := if 0 ≤ z ∧ z < 49 then if (S.w z.toNat).k = 0 then 30 else 0 else 1
theorem findE_ok {S : Sto} {z : Int} (h : S.findE z = 0) : 0 ≤ z ∧ z < 49 ∧ (S.w z.toNat).k ≠ 0 := by
  unfold Sto.findE at h
  split at h
  · split at h
    · cases h
    · rename_i a b; exact ⟨a.1, a.2, b⟩
  · cases h
/-- The entry that is found. -/
def Sto.at (S : Sto) (z : Int) : En := if S.findE z = 0 then S.w z.toNat else ze

/-! ### eight words stored, one behind the other -/
def layP (A : Mm) (z : Int) (l : Nat → Int) : Nat → Mm × Int
  | 0 => (A, 0)
  | k + 1 => if (layP A z l k).2 = 0 then ((layP A z l k).1.storeZ z k (l k), (layP A z l k).1.storeE z k) else layP A z l k
theorem layP_next {A : Mm} {z : Int} {l : Nat → Int} {k : Nat} (h : (layP A z l k).2 = 0) : layP A z l (k + 1) = ((layP A z l k).1.storeZ z k (l k), (layP A z l k).1.storeE z k) := if_pos h
theorem layP_stuck {A : Mm} {z : Int} {l : Nat → Int} {k : Nat} (h : (layP A z l k).2 ≠ 0) (m : Nat) : layP A z l (k + m) = layP A z l k := by
  induction m with
  | zero => rfl
  | succ m ih =>
    show (if (layP A z l (k + m)).2 = 0 then _ else layP A z l (k + m)) = _
    rw [ih, if_neg h]
theorem layP_n (A : Mm) (z : Int) (l : Nat → Int) (k : Nat) : (layP A z l k).1.n = A.n := by
  induction k with
  | zero => rfl
  | succ k ih =>
    unfold layP
    split
    · exact (storeZ_n _ _ _ _).trans ih
    · exact ih
theorem layP_ok {A : Mm} {B : Nat} (h : A.ok B) (z : Int) (l : Nat → Int) (hl : ∀ j, InU (l j)) (k : Nat) : (layP A z l k).1.ok (B + k) := by
  induction k with
  | zero => exact h
  | succ k ih =>
    unfold layP
    split
    · exact ok_storeZ ih z k (l k) (hl k)
    · exact ok_mono ih (by omega)
/-- What lay leaves: the memory; what it tells: the error (0: none). -/
def Sto.layM (S : Sto) (A : Mm) (l : Nat → Int) : Mm := if S.F.allocE = 0 then (layP A S.F.allocV l 8).1 else A
def Sto.layE (S : Sto) (A : Mm) (l : Nat → Int) : Int := if S.F.allocE = 0 then (layP A S.F.allocV l 8).2 else S.F.allocE
def Sto.layV (S : Sto) (A : Mm) (l : Nat → Int) : Int := if S.layE A l = 0 then S.F.allocV else 0
def Sto.took (S : Sto) : Sto := ⟨S.F.allocA, S.w, S.b, S.d, S.k, S.is⟩
theorem layM_n (S : Sto) (A : Mm) (l : Nat → Int) : (S.layM A l).n = A.n := by
  unfold Sto.layM; split
  · exact layP_n _ _ _ _
  · rfl
theorem layM_ok {S : Sto} {A : Mm} {B : Nat} (h : A.ok B) (l : Nat → Int) (hl : ∀ j, InU (l j)) : (S.layM A l).ok (B + 8) := by
  unfold Sto.layM; split
  · exact layP_ok h _ _ hl 8
  · exact ok_mono h (by omega)

/-! ### Set -/
def Sto.withW (S : Sto) (i : Nat) (x : En) : Sto := ⟨S.F, upd S.w i x, S.b, S.d, S.k, S.is⟩
def Sto.line (S : Sto) (z : Int) : Int := (S.w z.toNat).l
def moved (x : En) (l : Int) : En := ⟨x.k, x.v, l⟩
/-- What a copy of an object's line has, with the word set. -/
def Sto.copy (S : Sto) (A : Mm) (z q v : Int) : Nat → Int := upd (A.hasZ (S.line z)) q.toNat v
def Sto.setM (S : Sto) (A : Mm) (z q v : Int) : Mm :=
  if is8 q ∧ S.findE z = 0 then
    if S.own (S.line z) = true then A.storeZ (S.line z) q v
    else if S.F.left ≠ 0 ∧ A.loadE (S.line z) = 0 then S.layM A (S.copy A z q v) else A
  else A
def Sto.setS (S : Sto) (A : Mm) (z q v : Int) : Sto :=
  if is8 q ∧ S.findE z = 0 then
    if S.own (S.line z) = true then S
    else if S.F.left ≠ 0 ∧ A.loadE (S.line z) = 0 then
      (if S.layE A (S.copy A z q v) = 0 then S.took.withW z.toNat (moved (S.w z.toNat) S.F.allocV) else S.took)
    else S
  else S
def Sto.setE (S : Sto) (A : Mm) (z q v : Int) : Int :=
  if is8 q then
    if S.findE z = 0 then
      if S.own (S.line z) = true then A.storeE (S.line z) q
      else if S.F.left = 0 then 10
      else if A.loadE (S.line z) = 0 then S.layE A (S.copy A z q v) else A.loadE (S.line z)
    else S.findE z
  else 1

/-! ### Next, Make, End -/
def Sto.nx (S : Sto) : Option Nat := (List.range 49).find? fun i => opB (S.w i)
def mkB (z : Int) : Bool := decide (z = 1 ∨ z = 2 ∨ z = 4)
theorem mkB_iff (z : Int) : mkB z = true ↔ z = 1 ∨ z = 2 ∨ z = 4 := by unfold mkB; rw [decide_eq_true_iff]
def Sto.nextE (S : Sto) (z : Int) : Int := if mkB z = true then (match S.nx with | some _ => 0 | none => 34) else 1
def Sto.nextI (S : Sto) (z : Int) : Int := if mkB z = true then (match S.nx with | some i => (i : Int) | none => 0) else 0
def Sto.nextV (S : Sto) (z : Int) : Int := if mkB z = true then (match S.nx with | some i => (S.w i).v | none => 0) else 0
theorem nx_some {S : Sto} {k : Nat} (hk : k < 49) (hf : opB (S.w k) = true) (hn : ∀ i, i < k → opB (S.w i) = false) : S.nx = some k := by
  unfold Sto.nx
  obtain ⟨m, hm⟩ : ∃ m, 49 = k + 1 + m := ⟨49 - (k + 1), by omega⟩
  rw [hm, List.range_add, List.find?_append, List.range_succ, List.find?_append, find_none (fun x hx => hn x (List.mem_range.1 hx))]
  simp [hf]
theorem nx_none {S : Sto} (hn : ∀ i, i < 49 → opB (S.w i) = false) : S.nx = none := find_none fun x hx => hn x (List.mem_range.1 hx)
theorem nx_spec {S : Sto} {k : Nat} (h : S.nx = some k) : k < 49 ∧ opB (S.w k) = true := ⟨List.mem_range.1 (List.mem_of_find?_eq_some h), List.find?_some (p := fun i => opB (S.w i)) h⟩
theorem nextE_ok {S : Sto} {z : Int} (h : S.nextE z = 0) : ∃ k : Nat, S.nextI z = k ∧ k < 49 ∧ opB (S.w k) = true ∧ S.nextV z = (S.w k).v ∧ S.nx = some k ∧ mkB z = true := by
  unfold Sto.nextE at h
  split at h
  · rename_i hm
    cases hx : S.nx with
    | none => rw [hx] at h; cases h
    | some k =>
      refine ⟨k, ?_, (nx_spec hx).1, (nx_spec hx).2, ?_, rfl, hm⟩
      · unfold Sto.nextI; rw [if_pos hm, hx]
      · unfold Sto.nextV; rw [if_pos hm, hx]
  · cases h
def zeroL : Nat → Int := fun _ => 0
def Sto.makeM (S : Sto) (A : Mm) (z : Int) : Mm := if S.nextE z = 0 then S.layM A zeroL else A
def Sto.makeS (S : Sto) (A : Mm) (z : Int) : Sto :=
  if S.nextE z = 0 then (if S.layE A zeroL = 0 then S.took.withW (S.nextI z).toNat ⟨z, S.nextV z, S.F.allocV⟩ else S.took) else S
def Sto.makeE (S : Sto) (A : Mm) (z : Int) : Int := if S.nextE z = 0 then S.layE A zeroL else S.nextE z
def Sto.makeI (S : Sto) (A : Mm) (z : Int) : Int := if S.makeE A z = 0 then S.nextI z else 0
/-- The frames behind an End. -/
def Sto.endF (S : Sto) (z : Int) : Fr := if S.own (S.line z) = true then S.F.turnA (S.line z) 1 0 else S.F
def Sto.endS (S : Sto) (z : Int) : Sto := if S.findE z = 0 then ⟨S.endF z, upd S.w z.toNat (endV (S.w z.toNat)), S.b, S.d, S.k, S.is⟩ else S

/-! ### Mark, Commit, Abort, Room -/
def Sto.markS (S : Sto) : Sto := if S.is then S else ⟨S.F, S.w, S.b, S.d, S.w, true⟩
def Sto.markE (S : Sto) : Int := if S.is then 3 else 0
def inD (d : Nat → Int) (z : Int) : Bool := (List.range 8).any fun i => d i == z
theorem inD_iff (d : Nat → Int) (z : Int) : inD d z = true ↔ ∃ i, i < 8 ∧ d i = z := by
  unfold inD; rw [List.any_eq_true]
  constructor
  · rintro ⟨i, hi, h⟩; exact ⟨i, List.mem_range.1 hi, by simpa using h⟩
  · rintro ⟨i, hi, h⟩; exact ⟨i, List.mem_range.2 hi, by simpa using h⟩
/-- A line that the base, its Dir or the working table names. -/
def Sto.nmB (S : Sto) (i : Nat) : Bool := inD S.d i || hasB S.b i || hasB S.w i
/-- Each frame below k that is taken, and not named, is free. -/
def Fr.freeTo (A : Fr) (nm : Nat → Bool) (k : Nat) : Fr := ⟨A.lo, A.hi, fun i => if ((A.lo ≤ i ∧ i < A.hi) ∧ i < k) ∧ A.s i = 1 ∧ nm i = false then 0 else A.s i⟩
def Sto.freed (S : Sto) : Sto := ⟨S.F.freeTo S.nmB 1024, S.w, S.b, S.d, S.k, S.is⟩
def Sto.unmarkS (S : Sto) : Sto := (Sto.mk S.F S.w S.b S.d (fun _ => ze) false).freed
def Sto.commitS (S : Sto) (d : Nat → Int) : Sto := if S.is then (Sto.mk S.F S.w S.k d S.k S.is).unmarkS else S
def Sto.abortS (S : Sto) : Sto := if S.is then S.unmarkS else S
def Sto.doneE (S : Sto) : Int := if S.is then 0 else 3
theorem lt_of_ne {i k : Nat} (h : i < k + 1) (hn : i ≠ k) : i < k := by omega
theorem freeTo_zero (A : Fr) (nm : Nat → Bool) : A.freeTo nm 0 = A := by
  unfold Fr.freeTo; cases A with | mk lo hi s => simp
theorem freeTo_next (A : Fr) (nm : Nat → Bool) (k : Nat) (h : nm k = false) : A.freeTo nm (k + 1) = (A.freeTo nm k).turnA (k : Int) 1 0 := by
  have es : (A.freeTo nm k).s k = A.s k := if_neg (by omega)
  unfold Fr.turnA
  rw [st_nat]
  show _ = if (if A.lo ≤ k ∧ k < A.hi then (A.freeTo nm k).s k else -1) = 1 then _ else _
  rw [es, Int.toNat_natCast]
  by_cases hf : A.lo ≤ k ∧ k < A.hi
  · rw [if_pos hf]
    by_cases h1 : A.s k = 1
    · rw [if_pos h1]
      unfold Fr.freeTo Fr.put
      congr 1
      funext i
      by_cases hi : i = k
      · subst hi; rw [upd_same, if_pos ⟨⟨hf, by omega⟩, h1, h⟩]
      · rw [upd_other _ _ _ _ hi]
        show _ = if ((A.lo ≤ i ∧ i < A.hi) ∧ i < k) ∧ A.s i = 1 ∧ nm i = false then (0 : Int) else A.s i
        by_cases c : ((A.lo ≤ i ∧ i < A.hi) ∧ i < k) ∧ A.s i = 1 ∧ nm i = false
        · rw [if_pos c, if_pos ⟨⟨c.1.1, by omega⟩, c.2⟩]
        · rw [if_neg c, if_neg (fun q => c ⟨⟨q.1.1, by omega⟩, q.2⟩)]
    · rw [if_neg h1]
      unfold Fr.freeTo
      congr 1
      funext i
      by_cases c : ((A.lo ≤ i ∧ i < A.hi) ∧ i < k) ∧ A.s i = 1 ∧ nm i = false
      · rw [if_pos c, if_pos ⟨⟨c.1.1, by omega⟩, c.2⟩]
      · rw [if_neg c, if_neg (fun q => c ⟨⟨q.1.1, lt_of_ne q.1.2 fun e => h1 (e ▸ q.2.1)⟩, q.2⟩)]
  · rw [if_neg hf, if_neg (by decide)]
    unfold Fr.freeTo
    congr 1
    funext i
    by_cases c : ((A.lo ≤ i ∧ i < A.hi) ∧ i < k) ∧ A.s i = 1 ∧ nm i = false
    · rw [if_pos c, if_pos ⟨⟨c.1.1, by omega⟩, c.2⟩]
    · rw [if_neg c, if_neg (fun q => c ⟨⟨q.1.1, lt_of_ne q.1.2 fun e => hf (e ▸ q.1.1)⟩, q.2⟩)]
theorem freeTo_same (A : Fr) (nm : Nat → Bool) (k : Nat) (h : nm k = true) : A.freeTo nm (k + 1) = A.freeTo nm k := by
  unfold Fr.freeTo
  congr 1
  funext i
  by_cases c : ((A.lo ≤ i ∧ i < A.hi) ∧ i < k) ∧ A.s i = 1 ∧ nm i = false
  · rw [if_pos c, if_pos ⟨⟨c.1.1, by omega⟩, c.2⟩]
  · rw [if_neg c, if_neg (fun q => c ⟨⟨q.1.1, lt_of_ne q.1.2 fun e => by have := q.2.2; rw [e, h] at this; cases this⟩, q.2⟩)]
theorem freeTo_ok {A : Fr} (h : A.ok) (nm : Nat → Bool) (k : Nat) : (A.freeTo nm k).ok := ⟨h.1, h.2.1, fun j => by
  show (if ((A.lo ≤ j ∧ j < A.hi) ∧ j < k) ∧ A.s j = 1 ∧ nm j = false then (0 : Int) else A.s j) = 0 ∨ (if ((A.lo ≤ j ∧ j < A.hi) ∧ j < k) ∧ A.s j = 1 ∧ nm j = false then (0 : Int) else A.s j) = 1 ∨ (if ((A.lo ≤ j ∧ j < A.hi) ∧ j < k) ∧ A.s j = 1 ∧ nm j = false then (0 : Int) else A.s j) = 2
  split
  · exact Or.inl rfl
  · exact h.2.2 j⟩
/-- An object that is there, in a line that is not its own. -/
def Sto.wants (S : Sto) (z : Int) : Bool := decide (S.findE z = 0) && !S.own (S.line z)
def Sto.needTo (S : Sto) (l : List Int) (j : Nat) : Nat := (List.range j).countP fun i => S.wants (l.getD i 0) && !((l.take i).contains (l.getD i 0))
def Sto.roomB (S : Sto) (l : List Int) (m : Int) : Bool := decide (0 ≤ m ∧ m ≤ (S.F.left : Int) - (S.needTo l l.length : Int))
theorem needTo_next (S : Sto) (l : List Int) (j : Nat) : S.needTo l (j + 1) = S.needTo l j + (if (S.wants (l.getD j 0) && !((l.take j).contains (l.getD j 0))) = true then 1 else 0) := by
  unfold Sto.needTo
  rw [List.range_succ, List.countP_append]
  simp [List.countP_cons]
theorem needTo_le (S : Sto) (l : List Int) (j : Nat) : S.needTo l j ≤ j := by
  have := List.countP_le_length (p := fun i => S.wants (l.getD i 0) && !((l.take i).contains (l.getD i 0))) (l := List.range j)
  rw [List.length_range] at this
  exact this

/-! ### stores stay stores -/
theorem upd_lt {α : Type} {P : α → Prop} {f : Nat → α} {n : Nat} (h : ∀ i, i < n → P (f i)) (k : Nat) {v : α} (hv : P v) : ∀ i, i < n → P (upd f k v i) := fun i hi => by
  unfold upd; split
  · exact hv
  · exact h i hi
theorem took_ok {S : Sto} (h : S.ok) : S.took.ok := ⟨alloc_ok h.1, h.2⟩
theorem withW_ok {S : Sto} (h : S.ok) (i : Nat) (x : En) (hx : v24 x.v) : (S.withW i x).ok := ⟨h.1, upd_lt (P := fun e : En => v24 e.v) h.2 i hx⟩
theorem setS_ok {S : Sto} (h : S.ok) (A : Mm) (z q v : Int) : (S.setS A z q v).ok := by
  unfold Sto.setS
  split
  · rename_i c
    have hz := findE_ok c.2
    split
    · exact h
    · split
      · split
        · exact withW_ok (took_ok h) _ _ (h.2 z.toNat (by omega))
        · exact took_ok h
      · exact h
  · exact h
theorem makeS_ok {S : Sto} (h : S.ok) (A : Mm) (z : Int) : (S.makeS A z).ok := by
  unfold Sto.makeS
  split
  · rename_i c
    obtain ⟨k, e1, hk, _, e2, _, _⟩ := nextE_ok c
    split
    · refine withW_ok (took_ok h) _ _ ?_
      show v24 (S.nextV z)
      rw [e2]; exact h.2 k hk
    · exact took_ok h
  · exact h
theorem endF_ok {S : Sto} (h : S.ok) (z : Int) : (S.endF z).ok := by
  unfold Sto.endF; split
  · exact turn_ok h.1 _ _ (Or.inl rfl)
  · exact h.1
theorem endV_v24 {x : En} (h : v24 x.v) : v24 (endV x).v := by
  unfold endV
  split
  · exact ⟨by decide, by decide⟩
  · show v24 (Go.Proofs.YtiafhcgaikapcaaGreat.nextI x.v)
    unfold Go.Proofs.YtiafhcgaikapcaaGreat.nextI v24
    unfold v24 at h
    split <;> omega
theorem endS_ok {S : Sto} (h : S.ok) (z : Int) : (S.endS z).ok := by
  unfold Sto.endS
  split
  · rename_i c
    have hz := findE_ok c
    exact ⟨endF_ok h z, upd_lt (P := fun e : En => v24 e.v) h.2 _ (endV_v24 (h.2 z.toNat (by omega)))⟩
  · exact h
theorem markS_ok {S : Sto} (h : S.ok) : S.markS.ok := by unfold Sto.markS; split <;> exact ⟨h.1, h.2⟩
theorem freed_ok {S : Sto} (h : S.ok) : S.freed.ok := ⟨freeTo_ok h.1 _ _, h.2⟩
theorem unmarkS_ok {S : Sto} (h : S.ok) : S.unmarkS.ok := freed_ok (S := Sto.mk S.F S.w S.b S.d (fun _ => ze) false) ⟨h.1, h.2⟩
theorem commitS_ok {S : Sto} (h : S.ok) (d : Nat → Int) : (S.commitS d).ok := by
  unfold Sto.commitS; split
  · exact unmarkS_ok (S := Sto.mk S.F S.w S.k d S.k S.is) ⟨h.1, h.2⟩
  · exact h
theorem abortS_ok {S : Sto} (h : S.ok) : S.abortS.ok := by
  unfold Sto.abortS; split
  · exact unmarkS_ok h
  · exact h

end Go.Proofs.YtiafhcgaikapcaaGreat


/-
  Lines taken one behind the other, in plain mathematics: all are frames, and each once, in whatever order. No program.
-/
namespace Go.Proofs.YtiafhcgaikapcaaGreat
set_option linter.unusedVariables false

/-- The lines of a table's first j entries that are objects. -/
def linesTo (f : Nat → En) (j : Nat) : List Int := ((List.range j).filter fun i => decide ((f i).k ≠ 0)).map fun i => (f i).l
def linesL (f : Nat → En) : List Int := linesTo f 49
theorem linesTo_zero (f : Nat → En) : linesTo f 0 = [] := rfl
theorem linesTo_in (f : Nat → En) (j : Nat) (h : (f j).k ≠ 0) : linesTo f (j + 1) = linesTo f j ++ [(f j).l] := by
  unfold linesTo; rw [List.range_succ, List.filter_append, List.map_append]; simp [h]
theorem linesTo_out (f : Nat → En) (j : Nat) (h : (f j).k = 0) : linesTo f (j + 1) = linesTo f j := by
  unfold linesTo; rw [List.range_succ, List.filter_append, List.map_append]; simp [h]
theorem linesTo_mem (f : Nat → En) (j : Nat) (z : Int) : z ∈ linesTo f j ↔ ∃ i, i < j ∧ (f i).k ≠ 0 ∧ (f i).l = z := by
  unfold linesTo
  rw [List.mem_map]
  constructor
  · rintro ⟨i, hi, rfl⟩
    rw [List.mem_filter, List.mem_range, decide_eq_true_iff] at hi
    exact ⟨i, hi.1, hi.2, rfl⟩
  · rintro ⟨i, hi, hk, rfl⟩
    exact ⟨i, by rw [List.mem_filter, List.mem_range, decide_eq_true_iff]; exact ⟨hi, hk⟩, rfl⟩
theorem linesL_mem (f : Nat → En) (z : Int) : z ∈ linesL f ↔ hasB f z = true := by
  unfold linesL; rw [linesTo_mem, hasB_iff]
theorem linesTo_len (f : Nat → En) (j : Nat) : (linesTo f j).length ≤ j := by
  unfold linesTo
  rw [List.length_map]
  exact Nat.le_trans (List.length_filter_le _ _) (by rw [List.length_range]; exact Nat.le_refl _)
def dirTo (d : Nat → Int) (j : Nat) : List Int := (List.range j).map d
theorem dirTo_next (d : Nat → Int) (j : Nat) : dirTo d (j + 1) = dirTo d j ++ [d j] := by unfold dirTo; rw [List.range_succ, List.map_append]; rfl
theorem dirTo_mem (d : Nat → Int) (z : Int) : z ∈ dirTo d 8 ↔ inD d z = true := by
  unfold dirTo; rw [List.mem_map, inD_iff]
  constructor
  · rintro ⟨i, hi, h⟩; exact ⟨i, List.mem_range.1 hi, h⟩
  · rintro ⟨i, hi, h⟩; exact ⟨i, List.mem_range.2 hi, h⟩

def Fr.takeL (F : Fr) : List Int → Fr
  | [] => F
  | z :: r => (F.turnA z 0 1).takeL r
def Fr.takesB (F : Fr) : List Int → Bool
  | [] => true
  | z :: r => decide (F.turnE z 0 = 0) && (F.turnA z 0 1).takesB r
theorem takeL_snoc (l : List Int) (z : Int) : ∀ F : Fr, F.takeL (l ++ [z]) = (F.takeL l).turnA z 0 1 := by
  induction l with
  | nil => intro F; rfl
  | cons y r ih => intro F; exact ih _
theorem takesB_snoc (l : List Int) (z : Int) : ∀ F : Fr, F.takesB (l ++ [z]) = (F.takesB l && decide ((F.takeL l).turnE z 0 = 0)) := by
  induction l with
  | nil => intro F; show (decide _ && true) = (true && decide _); rw [Bool.and_true, Bool.true_and]; rfl
  | cons y r ih => intro F; show (decide _ && Fr.takesB _ (r ++ [z])) = ((decide _ && _) && _); rw [ih, Bool.and_assoc]; rfl
theorem takesB_part (l r : List Int) : ∀ F : Fr, F.takesB l = false → F.takesB (l ++ r) = false := by
  induction l with
  | nil => intro F h; cases h
  | cons y l ih =>
    intro F h
    show (decide _ && Fr.takesB _ (l ++ r)) = false
    have h' : (decide (F.turnE y 0 = 0) && (F.turnA y 0 1).takesB l) = false := h
    rw [Bool.and_eq_false_iff] at h' ⊢
    rcases h' with h' | h'
    · exact Or.inl h'
    · exact Or.inr (ih _ h')
theorem takeL_ok (l : List Int) : ∀ {F : Fr}, F.ok → (F.takeL l).ok := by
  induction l with
  | nil => intro F h; exact h
  | cons z r ih => intro F h; exact ih (turn_ok h z 0 (Or.inr (Or.inl rfl)))
theorem takeL_lo (l : List Int) : ∀ F : Fr, (F.takeL l).lo = F.lo ∧ (F.takeL l).hi = F.hi := by
  have h1 : ∀ (F : Fr) z, (F.turnA z 0 1).lo = F.lo ∧ (F.turnA z 0 1).hi = F.hi := fun F z => by unfold Fr.turnA; split <;> exact ⟨rfl, rfl⟩
  induction l with
  | nil => intro F; exact ⟨rfl, rfl⟩
  | cons z r ih => intro F; exact ⟨(ih _).1.trans (h1 F z).1, (ih _).2.trans (h1 F z).2⟩
theorem turnE_zero {F : Fr} {z was : Int} : F.turnE z was = 0 ↔ F.isF z ∧ F.s z.toNat = was := by
  unfold Fr.turnE
  split
  · rename_i h
    split
    · rename_i h2; exact ⟨fun _ => And.intro h h2, fun _ => rfl⟩
    · rename_i h2; exact ⟨fun q => absurd q (by decide), fun q => absurd (And.right q) h2⟩
  · rename_i h; exact ⟨fun q => absurd q (by decide), fun q => absurd (And.left q) h⟩
theorem turnA_of {F : Fr} {z was is : Int} (h : F.turnE z was = 0) : F.turnA z was is = F.put z.toNat is := by
  obtain ⟨h1, h2⟩ := turnE_zero.1 h
  unfold Fr.turnA
  exact if_pos (by unfold Fr.st; rw [if_pos h1]; exact h2)
/-- All are taken just if all are free frames, and each stands once. -/
theorem takesB_iff (l : List Int) : ∀ F : Fr, F.takesB l = true ↔ (∀ z ∈ l, F.isF z ∧ F.s z.toNat = 0) ∧ l.Nodup := by
  induction l with
  | nil => intro F; exact ⟨fun _ => ⟨by simp, List.nodup_nil⟩, fun _ => rfl⟩
  | cons y r ih =>
    intro F
    show (decide (F.turnE y 0 = 0) && (F.turnA y 0 1).takesB r) = true ↔ _
    rw [Bool.and_eq_true, decide_eq_true_iff, ih, List.nodup_cons]
    constructor
    · rintro ⟨h1, h2, h3⟩
      have e := turnA_of (is := 1) h1
      rw [e] at h2
      obtain ⟨f1, f2⟩ := turnE_zero.1 h1
      have key : ∀ z ∈ r, F.isF z ∧ z.toNat ≠ y.toNat ∧ F.s z.toNat = 0 := fun z hz => by
        obtain ⟨a, b⟩ := h2 z hz
        have a' : F.isF z := a
        have b' : upd F.s y.toNat 1 z.toNat = 0 := b
        by_cases e2 : z.toNat = y.toNat
        · rw [e2, upd_same] at b'; cases b'
        · rw [upd_other _ _ _ _ e2] at b'; exact ⟨a', e2, b'⟩
      refine ⟨fun z hz => ?_, fun hy => (key y hy).2.1 rfl, h3⟩
      rcases List.mem_cons.1 hz with rfl | hz
      · exact ⟨f1, f2⟩
      · exact ⟨(key z hz).1, (key z hz).2.2⟩
    · rintro ⟨h1, h2, h3⟩
      have hy := h1 y List.mem_cons_self
      have hE := turnE_zero.2 hy
      refine ⟨hE, fun z hz => ?_, h3⟩
      rw [turnA_of hE]
      have h4 := h1 z (List.mem_cons_of_mem _ hz)
      refine ⟨h4.1, ?_⟩
      show upd F.s y.toNat 1 z.toNat = 0
      have hne : z.toNat ≠ y.toNat := fun e => h2 (by
        have a1 := h4.1.1; have a2 := hy.1.1
        have : z = y := by omega
        rw [← this]; exact hz)
      rw [upd_other _ _ _ _ hne]; exact h4.2
theorem takeL_s (l : List Int) : ∀ F : Fr, F.takesB l = true → ∀ i : Nat, (F.takeL l).s i = if (i : Int) ∈ l then 1 else F.s i := by
  induction l with
  | nil => intro F _ i; rw [if_neg (by simp)]; rfl
  | cons y r ih =>
    intro F h i
    have h' : (decide (F.turnE y 0 = 0) && (F.turnA y 0 1).takesB r) = true := h
    rw [Bool.and_eq_true, decide_eq_true_iff] at h'
    show ((F.turnA y 0 1).takeL r).s i = _
    rw [ih _ h'.2 i, turnA_of h'.1]
    have hy := (turnE_zero.1 h'.1).1.1
    show (if (i : Int) ∈ r then (1 : Int) else upd F.s y.toNat 1 i) = _
    by_cases hr : (i : Int) ∈ r
    · rw [if_pos hr, if_pos (List.mem_cons_of_mem _ hr)]
    · rw [if_neg hr]
      by_cases e : i = y.toNat
      · rw [e, upd_same, if_pos (by rw [show ((y.toNat : Nat) : Int) = y by omega]; exact List.mem_cons_self)]
      · rw [upd_other _ _ _ _ e, if_neg (fun q => by
          rcases List.mem_cons.1 q with q | q
          · exact e (by omega)
          · exact hr q)]
/-- In whatever order. -/
theorem takes_perm {l r : List Int} (hp : l.Perm r) (F : Fr) : F.takesB l = F.takesB r ∧ (F.takesB l = true → F.takeL l = F.takeL r) := by
  have h1 : F.takesB l = F.takesB r := by
    rw [Bool.eq_iff_iff, takesB_iff, takesB_iff, hp.nodup_iff]
    constructor
    · intro h; exact ⟨fun z hz => h.1 z (hp.mem_iff.2 hz), h.2⟩
    · intro h; exact ⟨fun z hz => h.1 z (hp.mem_iff.1 hz), h.2⟩
  refine ⟨h1, fun h => ?_⟩
  have e1 := takeL_lo l F
  have e2 := takeL_lo r F
  have e3 := takeL_s l F h
  have e4 := takeL_s r F (h1 ▸ h)
  have : ∀ A B : Fr, A.lo = B.lo → A.hi = B.hi → (∀ i, A.s i = B.s i) → A = B := fun A B a b c => by
    cases A; cases B; simp only at a b c; rw [a, b, funext c]
  exact this _ _ (e1.1.trans e2.1.symm) (e1.2.trans e2.2.symm) fun i => by rw [e3 i, e4 i]; simp only [hp.mem_iff]

/-- What Of makes: the lines of the Dir first, then the table's. -/
def claimL (t : Nat → En) (d : Nat → Int) : List Int := dirTo d 8 ++ linesL t
def ofB (F : Fr) (t : Nat → En) (d : Nat → Int) : Bool := F.takesB (claimL t d)
def ofS (F : Fr) (t : Nat → En) (d : Nat → Int) : Sto := ⟨F.takeL (claimL t d), t, t, d, fun _ => ze, false⟩

end Go.Proofs.YtiafhcgaikapcaaGreat


/-
  How a store of objects lies in the program's memory: one block of 1477 cells (the memory's pointer, the frames, the working table, the base, its Dir, what is marked, whether something is); what the frames' calls do there.
-/
namespace Go.Proofs.YtiafhcgaikapcaaGreat
open Go.ChangeShapes Go.WideShapes Go.ChangeAt Go.RowKit Go.Joins
set_option maxRecDepth 10000
set_option linter.unusedVariables false
set_option linter.unusedSimpArgs false

/-- The cells of a store on the memory in the block m. -/
def stF (m : Nat) (S : Sto) (i : Nat) : Value :=
  if i = 0 then .pointer (some ⟨m, 0, none⟩) else if i < 1027 then frF S.F (i - 1) else if i < 1174 then .int .i64 (fl3 S.w (i - 1027)) else if i < 1321 then .int .i64 (fl3 S.b (i - 1174))
  else if i < 1329 then .int .i64 (S.d (i - 1321)) else if i < 1476 then .int .i64 (fl3 S.k (i - 1329)) else .bool S.is
def SRep (m : Nat) (S : Sto) (w : World) (b : Nat) : Prop := Blk w b 1477 146 (stF m S)
def Sto.withF (S : Sto) (A : Fr) : Sto := ⟨A, S.w, S.b, S.d, S.k, S.is⟩
def SFr (m : Nat) (S : Sto) (w : World) (b : Nat) (A : Fr) : Prop := SRep m (S.withF A) w b
theorem stF_fr (m : Nat) (S : Sto) (j : Nat) (h : j < 1026) : stF m S (1 + j) = frF S.F j := by
  unfold stF; rw [if_neg (by omega), if_pos (by omega), show 1 + j - 1 = j by omega]
theorem stF_w (m : Nat) (S : Sto) (j : Nat) (h : j < 147) : stF m S (1027 + j) = .int .i64 (fl3 S.w j) := by
  unfold stF; rw [if_neg (by omega), if_neg (by omega), if_pos (by omega), show 1027 + j - 1027 = j by omega]
theorem stF_b (m : Nat) (S : Sto) (j : Nat) (h : j < 147) : stF m S (1174 + j) = .int .i64 (fl3 S.b j) := by
  unfold stF; rw [if_neg (by omega), if_neg (by omega), if_neg (by omega), if_pos (by omega), show 1174 + j - 1174 = j by omega]
theorem stF_d (m : Nat) (S : Sto) (j : Nat) (h : j < 8) : stF m S (1321 + j) = .int .i64 (S.d j) := by
  unfold stF; rw [if_neg (by omega), if_neg (by omega), if_neg (by omega), if_neg (by omega), if_pos (by omega), show 1321 + j - 1321 = j by omega]
theorem stF_k (m : Nat) (S : Sto) (j : Nat) (h : j < 147) : stF m S (1329 + j) = .int .i64 (fl3 S.k j) := by
  unfold stF; rw [if_neg (by omega), if_neg (by omega), if_neg (by omega), if_neg (by omega), if_neg (by omega), if_pos (by omega), show 1329 + j - 1329 = j by omega]
theorem stF_is (m : Nat) (S : Sto) : stF m S 1476 = .bool S.is := rfl
theorem SFr.c0 {m : Nat} {S : Sto} {w : World} {b : Nat} {A : Fr} (h : SFr m S w b A) : w.cell? ⟨b, 1, none⟩ = some (.int .i64 (A.lo : Int)) := Blk.cell h 1 (by decide)
theorem SFr.c1 {m : Nat} {S : Sto} {w : World} {b : Nat} {A : Fr} (h : SFr m S w b A) : w.cell? ⟨b, 2, none⟩ = some (.int .i64 (A.hi : Int)) := Blk.cell h 2 (by decide)
theorem SFr.cs {m : Nat} {S : Sto} {w : World} {b : Nat} {A : Fr} (h : SFr m S w b A) (i : Nat) (hi : i < 1024) : w.cell? ⟨b, 3 + i, none⟩ = some (.int .i64 (A.s i)) := by
  rw [Blk.cell h (3 + i) (by omega), show 3 + i = 1 + (2 + i) by omega, stF_fr _ _ _ (by omega)]
  show some (frF A (2 + i)) = _
  unfold frF
  rw [if_neg (by omega), if_neg (by omega), show 2 + i - 2 = i by omega]
theorem SFr.fr {m : Nat} {S : Sto} {w : World} {b : Nat} {A : Fr} (h : SFr m S w b A) (i : Nat) : w.frozen? ⟨b, i, none⟩ = false := Blk.free h i
theorem SFr.put {m : Nat} {S : Sto} {w : World} {b : Nat} {A : Fr} (h : SFr m S w b A) (i : Nat) (hi : i < 1024) (v : Int) : SFr m S (w.setCell ⟨b, 3 + i, none⟩ (.int .i64 v)) b (A.put i v) :=
  (Blk.set h (3 + i) (.int .i64 v)).ext fun j _ => by
    by_cases hj : j = 3 + i
    · subst hj
      rw [upd_same, show 3 + i = 1 + (2 + i) by omega, stF_fr _ _ _ (by omega)]
      show _ = frF (A.put i v) (2 + i)
      unfold frF
      rw [if_neg (by omega), if_neg (by omega), show 2 + i - 2 = i by omega]
      show _ = Value.int _ (upd A.s i v i)
      rw [upd_same]
    · rw [upd_other _ _ _ _ hj]
      unfold stF
      by_cases h0 : j = 0
      · rw [if_pos h0, if_pos h0]
      · rw [if_neg h0, if_neg h0]
        by_cases h1 : j < 1027
        · rw [if_pos h1, if_pos h1]
          show frF A (j - 1) = frF (A.put i v) (j - 1)
          unfold frF
          by_cases a : j - 1 = 0
          · rw [if_pos a, if_pos a]; rfl
          · rw [if_neg a, if_neg a]
            by_cases c : j - 1 = 1
            · rw [if_pos c, if_pos c]; rfl
            · rw [if_neg c, if_neg c]
              show _ = Value.int _ (upd A.s i v (j - 1 - 2))
              rw [upd_other _ _ _ _ (by omega)]
        · rw [if_neg h1, if_neg h1]; rfl

theorem sstate_any {m : Nat} {S : Sto} {w : World} {b : Nat} {A : Fr} (h : SFr m S w b A) (hok : A.ok) (z : Int) :
    Calls Tryz.prog 136 #[.pointer (some ⟨b, 1, none⟩), .int .i64 z] w fun e w' => e = .returned (.int .i64 (A.st z)) ∧ w' = w := by
  have c0 := h.c0
  have c1 := h.c1
  have h1024 := hok.2.1
  by_cases h1 : z < (A.lo : Int)
  · have e : A.st z = -1 := if_neg fun q => by have := q.1; omega
    rw [e]
    clear h hok e
    go_enter Tryz.func136, Tryz.ntmps136
    go_wp2
    go_ret
    exact ⟨rfl, rfl⟩
  · by_cases h2 : (A.hi : Int) ≤ z
    · have e : A.st z = -1 := if_neg fun q => by have := q.2; omega
      rw [e]
      clear h hok e
      go_enter Tryz.func136, Tryz.ntmps136
      go_wp2
      go_ret
      exact ⟨rfl, rfl⟩
    · have e : A.st z = A.s z.toNat := if_pos ⟨by omega, by omega⟩
      rw [e]
      obtain ⟨k, rfl⟩ : ∃ k : Nat, z = (k : Int) := ⟨z.toNat, by omega⟩
      have cs := h.cs k (by omega)
      have hk1 : (0 : Int) ≤ (k : Int) := by omega
      have hk2 : (k : Int) < 1024 := by omega
      rw [show ((k : Int)).toNat = k by omega]
      clear h hok e
      go_enter Tryz.func136, Tryz.ntmps136
      go_wp2
      go_ret
      exact ⟨rfl, rfl⟩

/-- Behind a call: it returned v, the frames at b are A', nothing else has turned. -/
def SWent (m : Nat) (S : Sto) (w : World) (b : Nat) (A' : Fr) (v : Value) (e : Ending) (w' : World) : Prop := e = .returned v ∧ SFr m S w' b A' ∧ Keeps (· = b) w w'

theorem sturn_any {m : Nat} {S : Sto} {w : World} {b : Nat} {A : Fr} (h : SFr m S w b A) (hok : A.ok) (z was is : Int) (hwas : was ≠ -1) :
    Calls Tryz.prog 146 #[.pointer (some ⟨b, 1, none⟩), .int .i64 z, .int .i64 was, .int .i64 is] w (SWent m S w b (A.turnA z was is) (.int .i64 (A.turnE z was))) := by
  have HS := hide (sstate_any h hok z)
  by_cases h1 : A.isF z
  · have hz := h1
    have e1 : A.st z = A.s z.toNat := if_pos h1
    obtain ⟨k, rfl⟩ : ∃ k : Nat, z = (k : Int) := ⟨z.toNat, by have := h1.1; omega⟩
    have hk : k < 1024 := by have := h1.2; have := hok.2.1; omega
    rw [show ((k : Int)).toNat = k by omega] at e1
    by_cases h2 : A.s k = was
    · have ea : A.turnA k was is = A.put k is := if_pos (e1.trans h2)
      have ee : A.turnE k was = 0 := by unfold Fr.turnE; rw [if_pos h1]; exact if_pos h2
      rw [ea, ee]
      rw [e1, h2] at HS
      have cs := h.cs k hk
      have fs := h.fr (3 + k)
      have H := hide (h.put k hk is)
      have hk1 : (0 : Int) ≤ (k : Int) := by omega
      have hk2 : (k : Int) < 1024 := by omega
      have hw1 : (was == -1) = false := by simpa using hwas
      clear h hok h1 hz e1 h2 ea ee
      go_enter Tryz.func146, Tryz.ntmps146
      go_wp2_with fail
      refine (unhide HS).mono ?_
      rintro e w ⟨rfl, rfl⟩
      go_wp2
      go_ret
      exact ⟨rfl, unhide H, Keeps.setCell (F := (· = b)) (p := ⟨b, 3 + k, none⟩) (Keeps.refl _ _) rfl _⟩
    · have ea : A.turnA k was is = A := if_neg (fun q => h2 (e1.symm.trans q))
      have ee : A.turnE k was = 3 := by unfold Fr.turnE; rw [if_pos h1]; exact if_neg h2
      rw [ea, ee]
      have hm : ((A.s k) == (-1 : Int)) = false := by have := hok.2.2 k; simp; omega
      have hm2 : ((A.s k) == was) = false := by simpa using h2
      rw [e1] at HS
      have H := hide h
      clear h hok h1 hz e1 h2 ea ee
      generalize A.s k = x at *
      go_enter Tryz.func146, Tryz.ntmps146
      go_wp2_with fail
      refine (unhide HS).mono ?_
      rintro e w ⟨rfl, rfl⟩
      go_wp2
      go_ret
      exact ⟨rfl, unhide H, Keeps.refl _ _⟩
  · have e1 : A.st z = -1 := if_neg h1
    have ea : A.turnA z was is = A := if_neg (fun q => hwas (by rw [← q, e1]))
    have ee : A.turnE z was = 1 := if_neg h1
    rw [ea, ee]
    rw [e1] at HS
    have H := hide h
    clear h hok h1 e1 ea ee
    go_enter Tryz.func146, Tryz.ntmps146
    go_wp2_with fail
    refine (unhide HS).mono ?_
    rintro e w ⟨rfl, rfl⟩
    go_wp2
    go_ret
    exact ⟨rfl, unhide H, Keeps.refl _ _⟩

theorem stake_any {m : Nat} {S : Sto} {w : World} {b : Nat} {A : Fr} (h : SFr m S w b A) (hok : A.ok) (z : Int) :
    Calls Tryz.prog 180 #[.pointer (some ⟨b, 1, none⟩), .int .i64 z] w (SWent m S w b (A.turnA z 0 1) (.int .i64 (A.turnE z 0))) := by
  have HT := hide (sturn_any h hok z 0 1 (by decide))
  clear h hok
  go_enter Tryz.func180, Tryz.ntmps180
  go_wp2_with fail
  unfold SWent
  refine (unhide HT).mono ?_
  rintro e w1 ⟨rfl, h1, h2⟩
  have H1 := hide h1
  have H2 := hide h2
  clear h1 h2
  go_wp2
  go_ret
  exact ⟨rfl, unhide H1, unhide H2⟩
theorem sfree_any {m : Nat} {S : Sto} {w : World} {b : Nat} {A : Fr} (h : SFr m S w b A) (hok : A.ok) (z : Int) :
    Calls Tryz.prog 82 #[.pointer (some ⟨b, 1, none⟩), .int .i64 z] w (SWent m S w b (A.turnA z 1 0) (.int .i64 (A.turnE z 1))) := by
  have HT := hide (sturn_any h hok z 1 0 (by decide))
  clear h hok
  go_enter Tryz.func82, Tryz.ntmps82
  go_wp2_with fail
  unfold SWent
  refine (unhide HT).mono ?_
  rintro e w1 ⟨rfl, h1, h2⟩
  have H1 := hide h1
  have H2 := hide h2
  clear h1 h2
  go_wp2
  go_ret
  exact ⟨rfl, unhide H1, unhide H2⟩
theorem salloc_any {m : Nat} {S : Sto} {w : World} {b : Nat} {A : Fr} (h : SFr m S w b A) (hok : A.ok) :
    Calls Tryz.prog 137 #[.pointer (some ⟨b, 1, none⟩)] w (SWent m S w b A.allocA (.tuple #[.int .i64 A.allocV, .int .i64 A.allocE])) := by
  have c1 := h.c1
  have h1024 := hok.2.1
  have H := hide h
  have HOK := hide hok
  clear h hok
  obtain ⟨n, hn⟩ : ∃ n, n = A.hi := ⟨_, rfl⟩
  rw [← hn] at c1 h1024
  have HN := hide hn
  clear hn
  go_enter Tryz.func137, Tryz.ntmps137
  go_wp2_with fail
  go_loopw [9] (fun i wr => ∃ k : Nat, k ≤ n ∧ i = .int .i64 k ∧ wr = w ∧ ∀ j, j < k → A.fr j = false) (fun i _ => n - (intOf i).toNat)
  case atStart => exact ⟨0, by omega, rfl, rfl, fun j hj => by omega⟩
  case round =>
    obtain ⟨k, hk, rfl, rfl, hno⟩ := hrel
    have HNO := hide hno
    clear hno
    by_cases hlt : k < n
    · have HS := hide (sstate_any (unhide H) (unhide HOK) (k : Int))
      have hk' : (k : Int) < (n : Int) := by omega
      have HSF := hide (st_free (A := A) k (by have := unhide HN; omega))
      rcases Bool.eq_false_or_eq_true (A.fr k) with hf | hf
      · have e0 := (unhide HSF).2 hf
        rw [e0] at HS
        have ef : A.first = some k := first_some (by have := unhide HN; omega) hf (unhide HNO)
        have cs := (unhide H).cs k (by omega)
        have fs := (unhide H).fr (3 + k)
        have HP := hide ((unhide H).put k (by omega) 1)
        have hk1 : (0 : Int) ≤ (k : Int) := by omega
        have hk2 : (k : Int) < 1024 := by omega
        have ea : A.allocA = A.put k 1 := by unfold Fr.allocA; rw [ef]
        have ev : A.allocV = (k : Int) := by unfold Fr.allocV; rw [ef]
        have ee : A.allocE = 0 := by unfold Fr.allocE; rw [ef]
        rw [ea, ev, ee]
        clear HSF e0 ef ea ev ee hf
        go_wp2_with fail
        refine (unhide HS).mono ?_
        rintro e wr ⟨rfl, rfl⟩
        go_wp2_with fail
        go_ret2
        exact ⟨rfl, unhide HP, Keeps.setCell (F := (· = b)) (p := ⟨b, 3 + k, none⟩) (Keeps.refl _ _) rfl _⟩
      · obtain ⟨x, hx⟩ : ∃ x, x = A.st (k : Int) := ⟨_, rfl⟩
        have e0 : (x == (0 : Int)) = false := by
          have : ¬ A.st (k : Int) = 0 := fun q => by rw [(unhide HSF).1 q] at hf; simp at hf
          rw [hx]; simpa using this
        rw [← hx] at HS
        have HF := hide hf
        clear HSF hf hx
        go_wp2_with fail
        refine (unhide HS).mono ?_
        rintro e wr ⟨rfl, rfl⟩
        go_wp2_with fail
        go_roundw
        case rel => exact ⟨k + 1, by omega, by go_num, by trivial, fun j hj => by
          by_cases hjk : j = k
          · rw [hjk]; exact unhide HF
          · exact unhide HNO j (by omega)⟩
        case measure => simp [intOf]; omega
    · obtain rfl : k = n := by omega
      have ef : A.first = none := first_none fun i hi => unhide HNO i (by have := unhide HN; omega)
      have ea : A.allocA = A := by unfold Fr.allocA; rw [ef]
      have ev : A.allocV = 0 := by unfold Fr.allocV; rw [ef]
      have ee : A.allocE = 10 := by unfold Fr.allocE; rw [ef]
      have HE := hide (And.intro ea (And.intro ev ee))
      clear ea ev ee ef
      go_wp2_with fail
      go_ret2
      obtain ⟨ea, ev, ee⟩ := unhide HE
      rw [ea, ev, ee]
      exact ⟨rfl, unhide H, Keeps.refl _ _⟩

theorem sleft_any {m : Nat} {S : Sto} {w : World} {b : Nat} {A : Fr} (h : SFr m S w b A) (hok : A.ok) :
    Calls Tryz.prog 73 #[.pointer (some ⟨b, 1, none⟩)] w fun e w' => e = .returned (.int .i64 (A.left : Int)) ∧ w' = w := by
  have c1 := h.c1
  have h1024 := hok.2.1
  have H := hide h
  have HOK := hide hok
  clear h hok
  obtain ⟨n, hn⟩ : ∃ n, n = A.hi := ⟨_, rfl⟩
  rw [← hn] at c1 h1024
  have HN := hide hn
  clear hn
  go_enter Tryz.func73, Tryz.ntmps73
  go_wp2_with fail
  go_loopw [3, 9] (fun m i wr => ∃ k : Nat, k ≤ n ∧ m = .int .i64 (A.leftTo k : Int) ∧ i = .int .i64 k ∧ wr = w) (fun _ i _ => n - (intOf i).toNat)
  case atStart => exact ⟨0, by omega, rfl, rfl, rfl⟩
  case round =>
    obtain ⟨k, hk, rfl, rfl, rfl⟩ := hrel
    obtain ⟨m, hm⟩ : ∃ m, m = A.leftTo k := ⟨_, rfl⟩
    have hmk : m ≤ k := by rw [hm]; exact leftTo_le A k
    rw [← hm]
    have HM := hide hm
    clear hm
    by_cases hlt : k < n
    · have HS := hide (sstate_any (unhide H) (unhide HOK) (k : Int))
      have hk' : (k : Int) < (n : Int) := by omega
      have HSF := hide (st_free (A := A) k (by have := unhide HN; omega))
      rcases Bool.eq_false_or_eq_true (A.fr k) with hf | hf
      · rw [(unhide HSF).2 hf] at HS
        have HX : Hid (A.leftTo (k + 1) = m + 1) := by show _ = _; rw [leftTo_next, if_pos hf, unhide HM]
        clear HSF hf
        go_wp2_with fail
        refine (unhide HS).mono ?_
        rintro e wr ⟨rfl, rfl⟩
        go_wp2_with fail
        go_roundw
        case rel => exact ⟨k + 1, by omega, by rw [unhide HX]; go_num, by go_num, by trivial⟩
        case measure => simp [intOf]; omega
      · obtain ⟨x, hx⟩ : ∃ x, x = A.st (k : Int) := ⟨_, rfl⟩
        have e0 : (x == (0 : Int)) = false := by
          have : ¬ A.st (k : Int) = 0 := fun q => by rw [(unhide HSF).1 q] at hf; simp at hf
          rw [hx]; simpa using this
        rw [← hx] at HS
        have HX : Hid (A.leftTo (k + 1) = m) := by show _ = _; rw [leftTo_next, if_neg (by simp [hf]), unhide HM]; rfl
        clear HSF hf hx
        go_wp2_with fail
        refine (unhide HS).mono ?_
        rintro e wr ⟨rfl, rfl⟩
        go_wp2_with fail
        go_roundw
        case rel => exact ⟨k + 1, by omega, by rw [unhide HX], by go_num, by trivial⟩
        case measure => simp [intOf]; omega
    · obtain rfl : k = n := by omega
      have HX : Hid (A.left = m) := by show A.leftTo A.hi = _; rw [← unhide HN, unhide HM]
      go_wp2_with fail
      go_ret
      exact ⟨by rw [unhide HX]; rfl, rfl⟩

end Go.Proofs.YtiafhcgaikapcaaGreat


/-
  Tables by value, and the rows of a store; mayMake.
-/
namespace Go.Proofs.YtiafhcgaikapcaaGreat
open Go.ChangeShapes Go.WideShapes Go.ChangeAt Go.RowKit Go.Joins
set_option maxRecDepth 10000
set_option linter.unusedVariables false
set_option linter.unusedSimpArgs false

/-- A table by value. -/
def tabV (f : Nat → En) : Array Value := iv .i64 (rowE 49 f)
theorem tabV_size (f : Nat → En) : (tabV f).size = 147 := by unfold tabV; rw [iv_size, rowE_len]
theorem tabV_one (f : Nat → En) : (tabV f).all (·.oneCell') = true := iv_one _ _
theorem tabV_list (f : Nat → En) : (tabV f).toList = (List.range 147).map fun j => Value.int .i64 (fl3 f j) := by simp [tabV, iv, rowE]
theorem s147_tab (f : Nat → En) : (Tryz.prog.info? 66).map (·.size) = some (tabV f).size := s147_of _ (rowE_len _ _)
theorem s3_ev (c : En) : (Tryz.prog.info? 41).map (·.size) = some (ev c).size := size3
section
variable {m : Nat} {S : Sto} {w : World} {b : Nat}
theorem SRep.rw (h : SRep m S w b) : w.rangeAt b 1027 (tabV S.w).toList := by rw [tabV_list]; exact Blk.range h 1027 147 (by decide) _ fun j hj => stF_w m S j hj
theorem SRep.rb (h : SRep m S w b) : w.rangeAt b 1174 (tabV S.b).toList := by rw [tabV_list]; exact Blk.range h 1174 147 (by decide) _ fun j hj => stF_b m S j hj
theorem SRep.rk (h : SRep m S w b) : w.rangeAt b 1329 (tabV S.k).toList := by rw [tabV_list]; exact Blk.range h 1329 147 (by decide) _ fun j hj => stF_k m S j hj
theorem fl3_0 (f : Nat → En) (i : Nat) : fl3 f (i * 3) = (f i).k := by unfold fl3; rw [if_pos (by omega), show i * 3 / 3 = i by omega]
theorem fl3_1 (f : Nat → En) (i : Nat) : fl3 f (i * 3 + 1) = (f i).v := by unfold fl3; rw [if_neg (by omega), if_pos (by omega), show (i * 3 + 1) / 3 = i by omega]
theorem fl3_2 (f : Nat → En) (i : Nat) : fl3 f (i * 3 + 2) = (f i).l := by unfold fl3; rw [if_neg (by omega), if_neg (by omega), show (i * 3 + 2) / 3 = i by omega]
theorem SRep.ck (h : SRep m S w b) (i : Nat) (hi : i < 49) : w.cell? ⟨b, 1027 + i * 3, none⟩ = some (.int .i64 (S.w i).k) := by
  rw [Blk.cell h _ (by omega), stF_w _ _ _ (by omega), fl3_0]
theorem SRep.en (h : SRep m S w b) (i : Nat) (hi : i < 49) : w.rangeAt b (1027 + i * 3) (ev (S.w i)).toList := fun j v hv => by
  rw [ev_list] at hv
  match j, hv with
  | 0, hv => show w.cell? ⟨b, 1027 + i * 3, none⟩ = _; rw [h.ck i hi]; simpa using hv
  | 1, hv => rw [Blk.cell h _ (by omega), show 1027 + i * 3 + 1 = 1027 + (i * 3 + 1) by omega, stF_w _ _ _ (by omega), fl3_1]; simpa using hv
  | 2, hv => rw [Blk.cell h _ (by omega), show 1027 + i * 3 + 2 = 1027 + (i * 3 + 2) by omega, stF_w _ _ _ (by omega), fl3_2]; simpa using hv
  | j + 3, hv => simp at hv
theorem SRep.below {w' : World} (h : SRep m S w b) (hb : Below w.heap.size w w') : SRep m S w' b := Blk.keeps (F := fun _ => False) h (Keeps.of_below hb) id
theorem SRep.frs (h : SRep m S w b) : SFr m S w b S.F := h
end

/-- A whole table loaded, by an operation that is wanted. -/
theorem wpList_load_tab {ops : Array Oper} {rest : List Oper} {o : Oper} {a : Act} {w : World} {Q : Exit → Act → World → Prop} (hw : Region.wanted o (yielded ops a.tmps) = true) (x : Operand) (ho : o.op = .load 66 x)
    (g off : Nat) (hx : a.eval x = .pointer (some ⟨g, off, none⟩)) (f : Nat → En) (hc : w.rangeAt g off (tabV f).toList)
    (h : wpList Tryz.prog ops Q rest (a.put o.dst (.agg (tabV f))) w) : wpList Tryz.prog ops Q (o :: rest) a w :=
  wpList_step fun K hK => by
    rw [if_pos hw]
    exact wp_load_mid 66 x ho g off hx (tabV f).toList _ hc Tryz.underlying66 rfl (by rw [Array.length_toList]; exact s147_tab f) (hK _ _ (by simpa using h))

theorem mayMake_any (z : Int) (w : World) : Calls Tryz.prog 143 #[.int .i64 z] w fun e w' => e = .returned (.bool (mkB z)) ∧ w' = w := by
  by_cases h1 : z = 1
  · subst h1
    go_enter Tryz.func143, Tryz.ntmps143
    go_wp2_with fail
    go_ret
    exact ⟨rfl, rfl⟩
  · have e1 : (z == 1) = false := by simpa using h1
    by_cases h2 : z = 2
    · subst h2
      go_enter Tryz.func143, Tryz.ntmps143
      go_wp2_with fail
      go_ret
      exact ⟨rfl, rfl⟩
    · have e2 : (z == 2) = false := by simpa using h2
      have HM : Hid (mkB z = (z == 4)) := by
        show _ = _
        rw [Bool.eq_iff_iff, mkB_iff, beq_iff_eq]
        constructor
        · rintro (h | h | h)
          · exact absurd h h1
          · exact absurd h h2
          · exact h
        · exact fun h => Or.inr (Or.inr h)
      clear h1 h2
      cases e4 : (z == 4) with
      | true =>
        rw [e4] at HM
        go_enter Tryz.func143, Tryz.ntmps143
        go_wp2_with fail
        go_ret
        exact ⟨by rw [unhide HM]; rfl, rfl⟩
      | false =>
        rw [e4] at HM
        go_enter Tryz.func143, Tryz.ntmps143
        go_wp2_with fail
        go_ret
        exact ⟨by rw [unhide HM]; rfl, rfl⟩

end Go.Proofs.YtiafhcgaikapcaaGreat


/-
  find: an entry that is there; nothing turns.
-/
namespace Go.Proofs.YtiafhcgaikapcaaGreat
open Go.ChangeShapes Go.WideShapes Go.ChangeAt Go.RowKit Go.Joins
set_option maxRecDepth 10000
set_option linter.unusedVariables false
set_option linter.unusedSimpArgs false

def foundV (S : Sto) (z : Int) : Value := .tuple #[.agg (ev (S.at z)), .int .i64 (S.findE z)]
theorem find_any {m : Nat} {S : Sto} {w : World} {b : Nat} (h : SRep m S w b) (z : Int) :
    Calls Tryz.prog 70 #[.pointer (some ⟨b, 0, none⟩), .int .i64 z] w fun e w' => e = .returned (foundV S z) ∧ Below w.heap.size w w' := by
  have KB := hide (fun c : Array Value => (Below.refl w.heap.size w).alloc (Nat.le_refl _) (.cells c 41))
  have nz := ev_new ze 41
  have hlt := Blk.lt h
  by_cases hz : 0 ≤ z ∧ z < 49
  · obtain ⟨i, rfl⟩ : ∃ i : Nat, z = (i : Int) := ⟨z.toNat, by omega⟩
    have hi : i < 49 := by omega
    have ck := h.ck i hi
    have HE := hide (h.en i hi)
    have RE : Hid (∀ o : Obj, (w.alloc o).rangeAt b (1027 + i * 3) (ev (S.w i)).toList) := fun o => World.rangeAt_alloc (unhide HE) o
    have hi1 : (0 : Int) ≤ (i : Int) := by omega
    have hi2 : (i : Int) < 49 := by omega
    by_cases hk : (S.w i).k = 0
    · have HV : Hid (foundV S (i : Int) = .tuple #[.agg (ev ze), .int .i64 30]) := by
        have e : S.findE (i : Int) = 30 := by unfold Sto.findE; rw [if_pos ⟨by omega, by omega⟩]; exact if_pos hk
        show foundV S (i : Int) = _
        unfold foundV Sto.at; rw [e]; rfl
      rw [hk] at ck
      clear hk h hz HE RE
      go_enter Tryz.func70, Tryz.ntmps70
      go_wp2_with (refine wpList_build0 rfl 41 rfl _ build3 ?_)
      exact bodyPost_ret (v := .tuple #[.agg (ev ze), .int .i64 30]) (results_two Tryz.results70 _ _ w.heap.size 41 (ev ze) (0, 0) _ _ rfl rfl (heap_new w _) Tryz.underlying41 rfl (s3_ev ze)) rfl ⟨by rw [unhide HV], unhide KB _⟩
    · have HV : Hid (foundV S (i : Int) = .tuple #[.agg (ev (S.w i)), .int .i64 0]) := by
        have e : S.findE (i : Int) = 0 := by unfold Sto.findE; rw [if_pos ⟨by omega, by omega⟩]; exact if_neg hk
        show foundV S (i : Int) = _
        unfold foundV Sto.at; rw [e]; rfl
      obtain ⟨k, ek⟩ : ∃ k, k = (S.w i).k := ⟨_, rfl⟩
      rw [← ek] at ck
      have hk1 : (k == 0) = false := by rw [ek]; simpa using hk
      have n1 := ev_new (S.w i) 41
      obtain ⟨E, hE⟩ : ∃ E, E = ev (S.w i) := ⟨_, rfl⟩
      have z3 : E.size = 3 := by rw [hE]; rfl
      have s3 : (Tryz.prog.info? 41).map (·.size) = some E.size := by rw [hE]; exact size3
      rw [← hE] at n1
      have HE2 := hide hE
      clear hk h hz ek hE HE
      go_enter Tryz.func70, Tryz.ntmps70
      go_wp2_with (with_reducible refine wpList_load_en (by with_unfolding_all rfl) _ (by with_unfolding_all rfl) b (1027 + i * 3) (by with_unfolding_all rfl) (S.w i) (unhide RE _) ?_; rw [← unhide HE2])
      exact bodyPost_ret (v := .tuple #[.agg E, .int .i64 0]) (results_two Tryz.results70 _ _ w.heap.size 41 E (0, 0) _ _ rfl rfl (heap_new w _) Tryz.underlying41 rfl s3) rfl ⟨by rw [unhide HV, unhide HE2], unhide KB _⟩
  · have HV : Hid (foundV S z = .tuple #[.agg (ev ze), .int .i64 1]) := by
      have e : S.findE z = 1 := if_neg hz
      show foundV S z = _
      unfold foundV Sto.at; rw [e]; rfl
    by_cases h1 : z < 0
    · clear h hz
      go_enter Tryz.func70, Tryz.ntmps70
      go_wp2_with (refine wpList_build0 rfl 41 rfl _ build3 ?_)
      exact bodyPost_ret (v := .tuple #[.agg (ev ze), .int .i64 1]) (results_two Tryz.results70 _ _ w.heap.size 41 (ev ze) (0, 0) _ _ rfl rfl (heap_new w _) Tryz.underlying41 rfl (s3_ev ze)) rfl ⟨by rw [unhide HV], unhide KB _⟩
    · have h2 : 49 ≤ z := by omega
      clear h hz
      go_enter Tryz.func70, Tryz.ntmps70
      go_wp2_with (refine wpList_build0 rfl 41 rfl _ build3 ?_)
      exact bodyPost_ret (v := .tuple #[.agg (ev ze), .int .i64 1]) (results_two Tryz.results70 _ _ w.heap.size 41 (ev ze) (0, 0) _ _ rfl rfl (heap_new w _) Tryz.underlying41 rfl (s3_ev ze)) rfl ⟨by rw [unhide HV], unhide KB _⟩

end Go.Proofs.YtiafhcgaikapcaaGreat


/-
  has, isOwn: whether a line is among a table's; nothing turns.
-/
namespace Go.Proofs.YtiafhcgaikapcaaGreat
open Go.ChangeShapes Go.WideShapes Go.ChangeAt Go.RowKit Go.Joins
set_option maxRecDepth 10000
set_option linter.unusedVariables false
set_option linter.unusedSimpArgs false

set_option maxHeartbeats 4000000 in
theorem has_any (t : Nat → En) (z : Int) (w : World) :
    Calls Tryz.prog 132 #[.agg (tabV t), .int .i64 z] w fun e w' => e = .returned (.bool (hasB t z)) ∧ Below w.heap.size w w' := by
  have s147 := s147_tab t
  have HX : Hid (∀ (W : World) (j : Nat), j < 49 → Sem.run Tryz.prog (Instr.index 66 (.agg (tabV t)) (.int .i64 (j : Int))) W = .ok (.agg (ev (t j))) W) := fun W j hj => by
    rw [← rowE_at 49 t j hj]; exact run_index_en _ 49 Tryz.underlying66 W _ (rowE_len _ _) .i64 j hj
  have KN := hide (heap_new w (.cells (tabV t) 66))
  have KB := hide ((Below.refl w.heap.size w).alloc (Nat.le_refl _) (.cells (tabV t) 66))
  go_enter Tryz.func132, Tryz.ntmps132
  go_wp2_with (with_reducible refine wpList_load_row (by with_unfolding_all rfl) 66 _ (by with_unfolding_all rfl) w.heap.size (by with_unfolding_all rfl) _ _ _ _ (unhide KN) Tryz.underlying66 (by with_unfolding_all rfl) s147 ?_)
  generalize hw1 : w.alloc _ = w1 at *
  clear hw1 KN
  go_loopw [8] (fun c wr => ∃ j : Nat, j ≤ 49 ∧ c = .int .i64 j ∧ Below w.heap.size w wr ∧ hasTo t z j = false) (fun c _ => 49 - (intOf c).toNat)
  case atStart => exact ⟨0, by omega, rfl, unhide KB, rfl⟩
  case round =>
    clear KB
    obtain ⟨j, hj, rfl, hb, hno⟩ := hrel
    have HB := hide hb
    have HN := hide hno
    have hsz := hb.size
    clear hb hno
    by_cases hlt : j < 49
    · have hix := fun W => unhide HX W j hlt
      obtain ⟨k, v, l, hx⟩ : ∃ k v l, t j = ⟨k, v, l⟩ := ⟨_, _, _, rfl⟩
      rw [hx] at hix
      have hi2 : ∀ W : World, Sem.run Tryz.prog (Instr.index 66 (.agg (tabV t)) (.int .i64 (j : Int))) W = .ok (.agg #[.int .i64 k, .int .i64 v, .int .i64 l]) W := hix
      have HA : Hid (atB ⟨k, v, l⟩ z = true → hasB t z = true) := fun h => hasB_of hlt (by rw [hx]; exact h)
      have HT : Hid (atB ⟨k, v, l⟩ z = false → hasTo t z (j + 1) = false) := fun h => by rw [hasTo_next, unhide HN, hx, h]; rfl
      clear hix hx HX
      by_cases h1 : k = 0
      · have e1 : (k != 0) = false := by simpa using h1
        have HT1 := hide (unhide HT (atB_no fun q => q.1 h1))
        clear HA HT h1
        go_wp2_with fail
        go_roundw
        case rel => exact ⟨j + 1, by omega, by go_num, (unhide HB).alloc hsz _, unhide HT1⟩
        case measure => simp [intOf]; omega
      · have e1 : (k != 0) = true := by simpa using h1
        by_cases h2 : l = z
        · have HA1 := hide (unhide HA ((atB_iff _ _).2 ⟨h1, h2⟩))
          have e2 : (l == z) = true := by simpa using h2
          clear HA HT h1 h2
          go_wp2_with fail
          go_ret
          exact ⟨by rw [unhide HA1]; rfl, (unhide HB).alloc hsz _⟩
        · have e2 : (l == z) = false := by simpa using h2
          have HT1 := hide (unhide HT (atB_no fun q => h2 q.2))
          clear HA HT h1 h2
          go_wp2_with fail
          go_roundw
          case rel => exact ⟨j + 1, by omega, by go_num, (unhide HB).alloc hsz _, unhide HT1⟩
          case measure => simp [intOf]; omega
    · obtain rfl : j = 49 := by omega
      go_wp2_with fail
      go_ret
      exact ⟨by rw [show hasB t z = false from unhide HN]; rfl, unhide HB⟩

theorem isOwn_any {m : Nat} {S : Sto} {w : World} {b : Nat} (h : SRep m S w b) (z : Int) :
    Calls Tryz.prog 71 #[.pointer (some ⟨b, 0, none⟩), .int .i64 z] w fun e w' => e = .returned (.bool (S.own z)) ∧ Below w.heap.size w w' := by
  have C1 := hide (has_any S.b z)
  have C2 := hide (has_any S.k z)
  have RB := hide h.rb
  have RK : Hid (∀ w' : World, Below w.heap.size w w' → w'.rangeAt b 1329 (tabV S.k).toList) := fun w' hb => (h.below hb).rk
  have EO : Hid (S.own z = (!hasB S.b z && !hasB S.k z)) := rfl
  obtain ⟨x, hx⟩ : ∃ x, x = hasB S.b z := ⟨_, rfl⟩
  obtain ⟨y, hy⟩ : ∃ y, y = hasB S.k z := ⟨_, rfl⟩
  rw [← hx] at C1 EO
  rw [← hy] at C2 EO
  clear h hx hy
  cases x with
  | true =>
    go_enter Tryz.func71, Tryz.ntmps71
    go_wp2_with (with_reducible refine wpList_load_tab (by with_unfolding_all rfl) _ (by with_unfolding_all rfl) b 1174 (by with_unfolding_all rfl) S.b (unhide RB) ?_)
    refine (unhide C1 _).mono ?_
    rintro e w1 ⟨rfl, hb1⟩
    have H1 := hide hb1
    clear hb1
    go_wp2_with fail
    go_ret
    exact ⟨by rw [unhide EO]; rfl, unhide H1⟩
  | false =>
    go_enter Tryz.func71, Tryz.ntmps71
    go_wp2_with (with_reducible refine wpList_load_tab (by with_unfolding_all rfl) _ (by with_unfolding_all rfl) b 1174 (by with_unfolding_all rfl) S.b (unhide RB) ?_)
    refine (unhide C1 _).mono ?_
    rintro e w1 ⟨rfl, hb1⟩
    have H1 := hide hb1
    have RK1 := hide (unhide RK w1 hb1)
    clear hb1
    go_wp2_with (with_reducible refine wpList_load_tab (by with_unfolding_all rfl) _ (by with_unfolding_all rfl) b 1329 (by with_unfolding_all rfl) S.k (unhide RK1) ?_)
    refine (unhide C2 _).mono ?_
    rintro e w2 ⟨rfl, hb2⟩
    have H2 := hide (Below.trans (unhide H1) (hb2.mono (unhide H1).size))
    clear hb2
    go_wp2_with fail
    go_ret
    exact ⟨by rw [unhide EO]; rfl, unhide H2⟩

end Go.Proofs.YtiafhcgaikapcaaGreat


/-
  Next: the next number that is free; nothing turns.
-/
namespace Go.Proofs.YtiafhcgaikapcaaGreat
open Go.ChangeShapes Go.WideShapes Go.ChangeAt Go.RowKit Go.Joins
set_option maxRecDepth 10000
set_option linter.unusedVariables false
set_option linter.unusedSimpArgs false

theorem below_drewN {B : Nat} {a w : World} (h : Below B a w) (n : Nat) : Below B a (w.drewN n) := ⟨h.os, h.tape, h.output, h.size, h.block⟩
def nextT (S : Sto) (z : Int) : Value := .tuple #[.int .i64 (S.nextI z), .int .i64 (S.nextV z), .int .i64 (S.nextE z)]
set_option maxHeartbeats 4000000 in
theorem next_any {m : Nat} {S : Sto} {w : World} {b : Nat} (h : SRep m S w b) (z : Int) :
    Calls Tryz.prog 79 #[.pointer (some ⟨b, 0, none⟩), .int .i64 z] w fun e w' => e = .returned (nextT S z) ∧ Below w.heap.size w w' := by
  have CM := hide (mayMake_any z)
  have RW := hide h.rw
  have HX : Hid (∀ (W : World) (j : Nat), j < 49 → Sem.run Tryz.prog (Instr.index 66 (.agg (tabV S.w)) (.int .i64 (j : Int))) W = .ok (.agg (ev (S.w j))) W) := fun W j hj => by
    rw [← rowE_at 49 S.w j hj]; exact run_index_en _ 49 Tryz.underlying66 W _ (rowE_len _ _) .i64 j hj
  clear h
  cases hm : mkB z with
  | false =>
    have HV : Hid (nextT S z = .tuple #[.int .i64 0, .int .i64 0, .int .i64 1]) := by
      show nextT S z = _
      unfold nextT Sto.nextI Sto.nextV Sto.nextE; rw [hm]; rfl
    rw [hm] at CM
    clear HX RW hm
    go_enter Tryz.func79, Tryz.ntmps79
    go_wp2_with fail
    refine (unhide CM _).mono ?_
    rintro e w ⟨rfl, rfl⟩
    go_wp2_with fail
    go_ret3
    exact ⟨by rw [unhide HV]; rfl, Below.refl _ _⟩
  | true =>
    have HM := hide hm
    rw [hm] at CM
    clear hm
    go_enter Tryz.func79, Tryz.ntmps79
    go_wp2_with fail
    refine (unhide CM _).mono ?_
    rintro e w ⟨rfl, rfl⟩
    go_wp2_with (with_reducible refine wpList_load_tab (by with_unfolding_all rfl) _ (by with_unfolding_all rfl) b 1027 (by with_unfolding_all rfl) S.w (unhide RW) ?_)
    clear RW CM
    go_loopw [7, 8, 16] (fun u v c wr => ∃ j : Nat, j ≤ 49 ∧ c = .int .i64 j ∧ Below w.heap.size w wr ∧ ∀ i, i < j → opB (S.w i) = false) (fun _ _ c _ => 49 - (intOf c).toNat)
    case atStart => exact ⟨0, by omega, rfl, Below.refl _ _, fun i hi => by omega⟩
    case round =>
      obtain ⟨j, hj, rfl, hb, hno⟩ := hrel
      have HB := hide hb
      have HN := hide hno
      have hsz := hb.size
      clear hb hno
      by_cases hlt : j < 49
      · have hix := fun W => unhide HX W j hlt
        obtain ⟨k, v, l, hx⟩ : ∃ k v l, S.w j = ⟨k, v, l⟩ := ⟨_, _, _, rfl⟩
        rw [hx] at hix
        have hi2 : ∀ W : World, Sem.run Tryz.prog (Instr.index 66 (.agg (tabV S.w)) (.int .i64 (j : Int))) W = .ok (.agg #[.int .i64 k, .int .i64 v, .int .i64 l]) W := hix
        have CO := hide (open3 k v l)
        have HX2 := hide hx
        have HBA := hide (fun o : Obj => (unhide HB).alloc hsz o)
        have CN : Hid (∀ o : Obj, ∀ w2 : World, Below (wr.alloc o).heap.size (wr.alloc o) w2 → w2.heap[wr.heap.size]? = some o) := fun o w2 h2 => by
          rw [h2.block _ (by simp)]; exact heap_new wr o
        clear hix hx HX
        cases ho : opB ⟨k, v, l⟩ with
        | true =>
          have HV : Hid (nextT S z = .tuple #[.int .i64 (j : Int), .int .i64 v, .int .i64 0]) := by
            have e := nx_some hlt (show opB (S.w j) = true by rw [unhide HX2]; exact ho) (unhide HN)
            show nextT S z = _
            unfold nextT Sto.nextI Sto.nextV Sto.nextE
            rw [unhide HM, e]
            show Value.tuple #[.int .i64 (j : Int), .int .i64 (S.w j).v, .int .i64 0] = _
            rw [unhide HX2]
          rw [ho] at CO
          clear ho
          go_wp2_with fail
          refine (unhide CO _).mono ?_
          rintro e w2 ⟨rfl, hb2⟩
          have H2 := hide ((unhide HBA _).trans (hb2.mono (by have := hb2.size; simp at this ⊢; omega)))
          have kb := unhide CN _ _ hb2
          have c1 : w2.cell? ⟨wr.heap.size, 1, none⟩ = some (.int .i64 v) := by rw [cell_of_block kb]; rfl
          clear hb2 kb CN CO HBA HB
          go_upto_region 7 with fail
          go_quiet (fail)
          go_wp2_with fail
          go_ret3
          exact ⟨by rw [unhide HV]; rfl, below_drewN (unhide H2) _⟩
        | false =>
          rw [ho] at CO
          have HN2 : Hid (∀ i, i < j + 1 → opB (S.w i) = false) := fun i hi => by
            by_cases e : i = j
            · rw [e, unhide HX2]; exact ho
            · exact unhide HN i (by omega)
          clear ho
          go_wp2_with fail
          refine (unhide CO _).mono ?_
          rintro e w2 ⟨rfl, hb2⟩
          have H2 := hide ((unhide HBA _).trans (hb2.mono (by have := hb2.size; simp at this ⊢; omega)))
          clear hb2 CN CO HBA HB
          go_wp2_with fail
          go_roundw
          case rel => exact ⟨j + 1, by omega, by go_num, unhide H2, unhide HN2⟩
          case measure => simp [intOf]; omega
      · obtain rfl : j = 49 := by omega
        have HV : Hid (nextT S z = .tuple #[.int .i64 0, .int .i64 0, .int .i64 34]) := by
          show nextT S z = _
          unfold nextT Sto.nextI Sto.nextV Sto.nextE
          rw [unhide HM, nx_none (unhide HN)]; rfl
        go_wp2_with fail
        go_ret3
        exact ⟨by rw [unhide HV]; rfl, unhide HB⟩

end Go.Proofs.YtiafhcgaikapcaaGreat


/-
  A store of objects on a memory, in whatever company the memory stands: what must stand, and what a frames' call, a reader, a store of the memory leaves.
-/
namespace Go.Proofs.YtiafhcgaikapcaaGreat
open Go.ChangeShapes Go.WideShapes Go.ChangeAt Go.RowKit Go.Joins
set_option maxRecDepth 10000
set_option linter.unusedVariables false
set_option linter.unusedSimpArgs false

/-- A memory in the block m, in whatever company: what its Store and Load leave. -/
structure MemL (W : World) (m : Nat) (St : Mm → World → (Nat → Prop) → Prop) : Prop where
  stay : ∀ A, Stay W (St A)
  store : ∀ w G A, St A w G → A.ok 1000 → ∀ z q v, Calls Tryz.prog 72 #[.pointer (some ⟨m, 0, none⟩), .int .i64 z, .int .i64 q, .int .u64 v] w (Done (St (A.storeZ z q v)) w G (.int .i64 (A.storeE z q)))
  lines : ∀ w G A, St A w G → Calls Tryz.prog 106 #[.pointer (some ⟨m, 0, none⟩)] w fun e w' => e = .returned (.int .i64 (A.n : Int)) ∧ w' = w
  load : ∀ w G A, St A w G → A.n ≤ 1024 → ∀ z, Calls Tryz.prog 47 #[.pointer (some ⟨m, 0, none⟩), .int .i64 z] w (Done (St A) w G (.tuple #[.agg (lnV (A.hasZ z)), .int .i64 (A.loadE z)]))
theorem Has.linesO {W w : World} {G : Nat → Prop} {b : Nat} {A : Mm} (h : Has W w G b A) : Calls Tryz.prog 106 #[.pointer (some ⟨b, 0, none⟩)] w fun e w' => e = .returned (.int .i64 (A.n : Int)) ∧ w' = w := by
  obtain ⟨F, c, cs, h1, h2, h3, h4⟩ := h
  exact lines_any h1
theorem Has.memL (W : World) (m : Nat) : MemL W m (fun A w G => Has W w G m A) where
  stay := fun A => Has.stay W m A
  store := fun w G A h hok z q v => (h.storeZ hok z q v).mono fun e w' ha => ha
  lines := fun w G A h => h.linesO
  load := fun w G A h hn z => (h.loadZ hn z).mono fun e w' ha => ha

/-- A store in the block b on the memory in m. -/
structure SHas (W : World) (m b : Nat) (St : Mm → World → (Nat → Prop) → Prop) (S : Sto) (A : Mm) (w : World) (G : Nat → Prop) : Prop where
  rep : SRep m S w b
  st : St A w (fun k => G k ∨ k = b)
  nb : ¬ G b
  new : W.heap.size ≤ b

section
variable {W w : World} {m b : Nat} {St : Mm → World → (Nat → Prop) → Prop} {S : Sto} {A : Mm} {G : Nat → Prop}
theorem SHas.lt (h : SHas W m b St S A w G) : b < w.heap.size := Blk.lt h.rep
theorem SHas.stay (M : MemL W m St) (b : Nat) (S : Sto) (A : Mm) : Stay W (SHas W m b St S A) where
  al := fun w G o h => ⟨Blk.alloc h.rep o, (M.stay A).ls _ _ _ ((M.stay A).al _ _ o h.st) (fun k hk => by
    rcases hk with (hk | hk) | hk
    · exact Or.inl (Or.inl hk)
    · exact Or.inr hk
    · exact Or.inl (Or.inr hk)), fun hk => by
    rcases hk with hk | hk
    · exact h.nb hk
    · have := h.lt; omega, h.new⟩
  ls := fun w G G' h hs => ⟨h.rep, (M.stay A).ls _ _ _ h.st (fun k hk => hk.imp (hs k) id), fun hk => h.nb (hs _ hk), h.new⟩
  bl := fun w w' G h hk => ⟨Blk.keeps h.rep hk id, (M.stay A).bl _ _ _ h.st hk, h.nb, h.new⟩
  ow := fun w w' G L h hL hW hk => ⟨Blk.keeps h.rep hk (fun e => h.nb (e ▸ hL)), (M.stay A).ow _ _ _ L h.st (Or.inl hL) hW hk, h.nb, h.new⟩
  lt := fun w G h k hk => (M.stay A).lt _ _ h.st k (Or.inl hk)
  sz := fun w G h => (M.stay A).sz _ _ h.st
/-- The block of the store is written, and nothing else that was there. -/
theorem SHas.turned (M : MemL W m St) (h : SHas W m b St S A w G) {S' : Sto} {w' : World} (hr : SRep m S' w' b) (hk : Keeps (· = b) w w') : SHas W m b St S' A w' G ∧ Same G w w' :=
  ⟨⟨hr, (M.stay A).ow _ _ _ b h.st (Or.inr rfl) h.new hk, h.nb, h.new⟩, fun k hg => hk.block k ((M.stay A).lt _ _ h.st k (Or.inl hg)) (fun e => h.nb (e ▸ hg))⟩
theorem SHas.went (M : MemL W m St) (h : SHas W m b St S A w G) {F : Fr} {v : Value} {e : Ending} {w' : World} (hw : SWent m S w b F v e w') : Done (SHas W m b St (S.withF F) A) w G v e w' :=
  ⟨hw.1, (h.turned M hw.2.1 hw.2.2).1, (h.turned M hw.2.1 hw.2.2).2⟩
theorem SHas.quiet (M : MemL W m St) (h : SHas W m b St S A w G) {w' : World} (hb : Below w.heap.size w w') : SHas W m b St S A w' G ∧ Same G w w' :=
  ⟨(SHas.stay M b S A).bl _ _ _ h (Keeps.of_below hb), fun k hg => hb.block k ((M.stay A).lt _ _ h.st k (Or.inl hg))⟩
theorem SHas.store (M : MemL W m St) (h : SHas W m b St S A w G) (hok : A.ok 1000) (z q v : Int) :
    Calls Tryz.prog 72 #[.pointer (some ⟨m, 0, none⟩), .int .i64 z, .int .i64 q, .int .u64 v] w (Done (SHas W m b St S (A.storeZ z q v)) w G (.int .i64 (A.storeE z q))) :=
  (M.store w _ A h.st hok z q v).mono fun e w' hd => by
    obtain ⟨he, h1, h2⟩ := hd
    refine ⟨he, ⟨?_, h1, h.nb, h.new⟩, fun k hg => h2 k (Or.inl hg)⟩
    have := h.rep
    unfold SRep Blk at this ⊢
    rw [h2 b (Or.inr rfl)]; exact this
theorem SHas.load (M : MemL W m St) (h : SHas W m b St S A w G) (hn : A.n ≤ 1024) (z : Int) :
    Calls Tryz.prog 47 #[.pointer (some ⟨m, 0, none⟩), .int .i64 z] w (Done (SHas W m b St S A) w G (.tuple #[.agg (lnV (A.hasZ z)), .int .i64 (A.loadE z)])) :=
  (M.load w _ A h.st hn z).mono fun e w' hd => by
    obtain ⟨he, h1, h2⟩ := hd
    refine ⟨he, ⟨?_, h1, h.nb, h.new⟩, fun k hg => h2 k (Or.inl hg)⟩
    have := h.rep
    unfold SRep Blk at this ⊢
    rw [h2 b (Or.inr rfl)]; exact this
theorem SHas.pm (h : SHas W m b St S A w G) : w.cell? ⟨b, 0, none⟩ = some (.pointer (some ⟨m, 0, none⟩)) := Blk.cell h.rep 0 (by decide)
theorem SHas.eqS {S' : Sto} (h : SHas W m b St S A w G) (e : S = S') : SHas W m b St S' A w G := e ▸ h
end

end Go.Proofs.YtiafhcgaikapcaaGreat


/-
  lay: a frame is taken, eight words are stored there, one behind the other, till the memory tells an error.
-/
namespace Go.Proofs.YtiafhcgaikapcaaGreat
open Go.ChangeShapes Go.WideShapes Go.ChangeAt Go.RowKit Go.Joins
set_option maxRecDepth 10000
set_option linter.unusedVariables false
set_option linter.unusedSimpArgs false

theorem run_index_lineO (W : World) (cs : Array Value) (k : IntKind) (i : Nat) (h8 : i < 8) (v : Value) (h : cs[i]? = some v) :
    Sem.run Tryz.prog (Instr.index 83 (.agg cs) (.int k (i : Int))) W = .ok v W := by
  have h8' : (0 : Int) ≤ (i : Int) ∧ (i : Int) < 8 := by omega
  simp [Instr.index, run_underlying Tryz.underlying83, asIntOf, h8, go_sem, part, h]
theorem lnV_get (f : Nat → Int) (i : Nat) (h : i < 8) : (lnV f)[i]? = some (.int .u64 (f i)) := tab_get _ _ _ h
theorem s8_ln (f : Nat → Int) : (Tryz.prog.info? 83).map (·.size) = some (lnV f).size := by rw [lnV_size]; kernel_rfl

set_option maxHeartbeats 2000000 in
theorem lay_any {W w : World} {m b : Nat} {St : Mm → World → (Nat → Prop) → Prop} {S : Sto} {A : Mm} {G : Nat → Prop} (M : MemL W m St) (h : SHas W m b St S A w G) (hS : S.ok) (hA : A.ok 900) (l : Nat → Int) (hl : ∀ j, InU (l j)) :
    Calls Tryz.prog 74 #[.pointer (some ⟨b, 0, none⟩), .agg (lnV l)] w (Done (SHas W m b St S.took (S.layM A l)) w G (.tuple #[.int .i64 (S.layV A l), .int .i64 (S.layE A l)])) := by
  have T0 := hide (SHas.stay M b S A)
  have O0 := hide ((Held.start (unhide T0) h).alloc (unhide T0) (.cells (lnV l) 83))
  have CA := hide (fun (w' : World) (h' : SFr m S w' b S.F) => salloc_any h' hS.1)
  by_cases he : S.F.allocE = 0
  · have EM : Hid (S.layM A l = (layP A S.F.allocV l 8).1) := by show _ = _; unfold Sto.layM; rw [if_pos he]
    have EE : Hid (S.layE A l = (layP A S.F.allocV l 8).2) := by show _ = _; unfold Sto.layE; rw [if_pos he]
    have EV : Hid (S.layE A l = 0 → S.layV A l = S.F.allocV) := fun q => by unfold Sto.layV; rw [if_pos q]
    have EN : Hid (S.layE A l ≠ 0 → S.layV A l = 0) := fun q => by unfold Sto.layV; rw [if_neg q]
    have HS : Hid (∀ j, (layP A S.F.allocV l j).2 = 0 → (layP A S.F.allocV l (j + 1)).1 = (layP A S.F.allocV l j).1.storeZ S.F.allocV j (l j) ∧ (layP A S.F.allocV l (j + 1)).2 = (layP A S.F.allocV l j).1.storeE S.F.allocV j) := fun j q => by
      rw [layP_next q]; exact ⟨rfl, rfl⟩
    have H8 : Hid (∀ j, j ≤ 8 → (layP A S.F.allocV l j).2 ≠ 0 → layP A S.F.allocV l 8 = layP A S.F.allocV l j) := fun j hj q => by
      have := layP_stuck q (8 - j)
      rwa [show j + (8 - j) = 8 by omega] at this
    have HO : Hid (∀ j, j ≤ 8 → (layP A S.F.allocV l j).1.ok 1000) := fun j hj => ok_mono (layP_ok hA _ l hl j) (by omega)
    have H0 : Hid ((layP A S.F.allocV l 0) = (A, 0)) := rfl
    have hev : S.F.allocV = S.F.allocV := rfl
    rw [he] at CA
    obtain ⟨PM, hPM⟩ : ∃ PM, PM = layP A S.F.allocV l := ⟨_, rfl⟩
    rw [← hPM] at EM EE HS H8 HO H0
    generalize hv : S.F.allocV = V at *
    have HX : Hid (∀ j, j < 8 → (lnV l)[j]? = some (.int .u64 (l j))) := fun j hj => lnV_get l j hj
    have s8 := s8_ln l
    clear hPM hv hev he h hl hA
    generalize lnV l = LV at *
    go_enter Tryz.func74, Tryz.ntmps74
    go_wp2_with fail
    refine (unhide CA _ (unhide O0).st.rep).mono ?_
    intro e w1 hw
    obtain ⟨rfl, h1, h2⟩ := (unhide O0).st.went M hw
    have O1 : Hid (Held W (SHas W m b St S.took A) w w1 G [(w.heap.size, .cells LV 83)]) := (unhide O0).call (St' := SHas W m b St S.took A) h1 h2
    clear hw h1 h2 O0 CA T0
    have KL := hide ((unhide O1).at w.heap.size (.cells LV 83) (by simp))
    go_wp2_with (with_reducible refine wpList_load_row (by with_unfolding_all rfl) 83 _ (by with_unfolding_all rfl) w.heap.size (by with_unfolding_all rfl) _ _ _ _ (unhide KL) Tryz.underlying83 (by with_unfolding_all rfl) s8 ?_)
    go_loopw [8, 9, 10, 22] (fun u8 u9 u10 c wr => ∃ j : Nat, j ≤ 8 ∧ c = .int .i64 j ∧ (PM j).2 = 0 ∧ Held W (SHas W m b St S.took (PM j).1) w wr G [(w.heap.size, .cells LV 83)]) (fun _ _ _ c _ => 8 - (intOf c).toNat)
    case atStart => exact ⟨0, by omega, rfl, by rw [unhide H0], by rw [unhide H0]; exact unhide O1⟩
    case round =>
      clear O1 KL
      obtain ⟨j, hj, rfl, hz, hh⟩ := hrel
      have HH := hide hh
      have HZ := hide hz
      clear hh hz
      by_cases hlt : j < 8
      · have hlt' : (j : Int) < 8 := by omega
        have hix := fun W => run_index_lineO W LV .i64 j hlt _ (unhide HX j hlt)
        have c0 := (unhide HH).st.pm
        have CS := hide ((unhide HH).st.store M (unhide HO j (by omega)) V j (l j))
        rw [← (unhide HS j (unhide HZ)).1, ← (unhide HS j (unhide HZ)).2] at CS
        go_wp2_with fail
        refine (unhide CS).mono ?_
        rintro e w2 ⟨rfl, h1, h2⟩
        have O2 := hide ((unhide HH).call (St' := SHas W m b St S.took (PM (j + 1)).1) h1 h2)
        clear h1 h2 HH CS hix c0
        by_cases hq : (PM (j + 1)).2 = 0
        · have HQ := hide hq
          rw [hq]
          clear hq
          go_wp2_with fail
          go_roundw
          case rel => exact ⟨j + 1, by omega, by go_num, unhide HQ, unhide O2⟩
          case measure => simp [intOf]; omega
        · have e8 := hide (unhide H8 (j + 1) (by omega) hq)
          have EQ : Hid (S.layE A l = (PM (j + 1)).2) := (unhide EE).trans (by rw [unhide e8])
          have HV : Hid (S.layV A l = 0) := unhide EN (by rw [unhide EQ]; exact hq)
          have HM : Hid (S.layM A l = (PM (j + 1)).1) := (unhide EM).trans (by rw [unhide e8])
          have hqb : ((PM (j + 1)).2 == 0) = false := by simpa using hq
          have hqb2 : ((PM (j + 1)).2 != 0) = true := by simpa using hq
          clear hq
          generalize (PM (j + 1)).2 = E at *
          go_wp2_with fail
          go_ret2
          rw [unhide EQ, unhide HV, unhide HM]
          exact (unhide O2).done (SHas.stay M b _ _) _
      · obtain rfl : j = 8 := by omega
        have HE : Hid (S.layE A l = 0) := (unhide EE).trans (unhide HZ)
        go_wp2_with fail
        go_ret2
        rw [unhide HE, unhide EV (unhide HE), unhide EM]
        exact (unhide HH).done (SHas.stay M b _ _) _
  · have EM : Hid (S.layM A l = A) := by show _ = _; unfold Sto.layM; rw [if_neg he]
    have EE : Hid (S.layE A l = S.F.allocE) := by show _ = _; unfold Sto.layE; rw [if_neg he]
    have EV : Hid (S.layV A l = 0) := by show _ = _; unfold Sto.layV; rw [if_neg (by rw [unhide EE]; exact he)]
    rw [unhide EM, unhide EE, unhide EV]
    have heb : (S.F.allocE != 0) = true := by simpa using he
    have heb2 : (S.F.allocE == 0) = false := by simpa using he
    clear he h hl hA EM EE EV
    generalize S.F.allocE = E at *
    generalize S.F.allocV = V at *
    generalize lnV l = LV at *
    go_enter Tryz.func74, Tryz.ntmps74
    go_wp2_with fail
    refine (unhide CA _ (unhide O0).st.rep).mono ?_
    intro e w1 hw
    obtain ⟨rfl, h1, h2⟩ := (unhide O0).st.went M hw
    have O1 : Hid (Held W (SHas W m b St S.took A) w w1 G [(w.heap.size, .cells LV 83)]) := (unhide O0).call (St' := SHas W m b St S.took A) h1 h2
    clear hw h1 h2 O0 CA T0
    go_wp2_with fail
    go_ret2
    exact (unhide O1).done (SHas.stay M b _ _) _

end Go.Proofs.YtiafhcgaikapcaaGreat


/-
  A store is written: an entry of the working table, whole or its line alone; cells of blocks of the call's own.
-/
namespace Go.Proofs.YtiafhcgaikapcaaGreat
open Go.ChangeShapes Go.WideShapes Go.ChangeAt Go.RowKit Go.Joins
set_option maxRecDepth 10000
set_option linter.unusedVariables false
set_option linter.unusedSimpArgs false

section
variable {W : World} {St St' : World → (Nat → Prop) → Prop} {w0 w w' : World} {G : Nat → Prop} {L : List (Nat × Obj)}
/-- A block of the call's own turns, the others stay. -/
theorem Held.turnOwn (S : Stay W St) (h : Held W St w0 w G L) (g : Nat) (o o' : Obj) (hm : (g, o) ∈ L) (hk : Keeps (· = g) w w') (ho : w'.heap[g]? = some o') : Held W St w0 w' G ((g, o') :: L.filter fun p => p.1 != g) := by
  have hg := h.2.1 _ hm
  refine ⟨S.ls _ _ _ (S.ow _ _ _ g h.1 (Or.inr ⟨_, hm⟩) hg.2.1 hk) (fun k hk => ?_), fun p hp => ?_, fun k hk' => ?_⟩
  · rcases hk with hk | ⟨o', hk⟩
    · exact Or.inl hk
    · rcases List.mem_cons.1 hk with e | hk
      · cases e; exact Or.inr ⟨_, hm⟩
      · exact Or.inr ⟨o', (List.mem_filter.1 hk).1⟩
  · rcases List.mem_cons.1 hp with rfl | hp
    · exact ⟨ho, hg.2⟩
    · rw [List.mem_filter] at hp
      exact ⟨(hk.block p.1 (h.lt p hp.1) (by simpa using hp.2)).trans (h.2.1 p hp.1).1, (h.2.1 p hp.1).2⟩
  · rw [hk.block k (S.lt _ _ h.1 k (Or.inl hk')) (fun e => hg.2.2 (e ▸ hk'))]; exact h.2.2 k hk'
theorem Held.cellset (S : Stay W St) (h : Held W St w0 w G L) (g : Nat) (ds : Array Value) (t : TypeId) (hm : (g, .cells ds t (0, 0)) ∈ L) (i : Nat) (v : Value) : Held W St w0 (w.setCell ⟨g, i, none⟩ v) G ((g, .cells (ds.setIfInBounds i v) t (0, 0)) :: L.filter fun p => p.1 != g) :=
  h.turnOwn S g _ _ hm (Keeps.setCell (F := (· = g)) (p := ⟨g, i, none⟩) (Keeps.refl _ _) rfl _) (block_setCell (h.at g _ hm) v)
/-- The block that was laid last is written whole. -/
theorem Held.rowHd (S : Stay W St) {g : Nat} {ds : Array Value} {t : TypeId} {fr : Nat × Nat} (h : Held W St w0 w G ((g, .cells ds t fr) :: L)) (hne : ∀ p ∈ L, p.1 ≠ g) (cs : Array Value) : Held W St w0 (w.setRow g cs) G ((g, .cells cs t fr) :: L) :=
  (h.row S g ds t fr List.mem_cons_self cs).less S fun p hp => by
    rcases List.mem_cons.1 hp with rfl | hp
    · exact List.mem_cons_self
    · exact List.mem_cons_of_mem _ (List.mem_filter.2 ⟨List.mem_cons_of_mem _ hp, by simpa using hne p hp⟩)
theorem Held.cellHd (S : Stay W St) {g : Nat} {ds : Array Value} {t : TypeId} (h : Held W St w0 w G ((g, .cells ds t (0, 0)) :: L)) (hne : ∀ p ∈ L, p.1 ≠ g) (i : Nat) (v : Value) : Held W St w0 (w.setCell ⟨g, i, none⟩ v) G ((g, .cells (ds.setIfInBounds i v) t (0, 0)) :: L) :=
  (h.cellset S g ds t List.mem_cons_self i v).less S fun p hp => by
    rcases List.mem_cons.1 hp with rfl | hp
    · exact List.mem_cons_self
    · exact List.mem_cons_of_mem _ (List.mem_filter.2 ⟨List.mem_cons_of_mem _ hp, by simpa using hne p hp⟩)
theorem Held.fresh (h : Held W St w0 w G L) : ∀ p ∈ L, p.1 ≠ w.heap.size := fun p hp => by have := h.lt p hp; omega
/-- The state turns by a write of its own. -/
theorem Held.turn (h : Held W St w0 w G L) (h1 : St' w' (fun k => G k ∨ ∃ o, (k, o) ∈ L) ∧ Same (fun k => G k ∨ ∃ o, (k, o) ∈ L) w w') : Held W St' w0 w' G L := h.call h1.1 h1.2
end

theorem lnV_set (f : Nat → Int) (i : Nat) (v : Int) : (lnV f).setIfInBounds i (.int .u64 v) = lnV (upd f i v) := by
  unfold lnV
  rw [tab_set]
  exact tab_ext fun j _ => by
    by_cases e : j = i
    · rw [e, upd_same, upd_same]
    · rw [upd_other _ _ _ _ e, upd_other _ _ _ _ e]
theorem fl3_upd (f : Nat → En) (i : Nat) (x : En) (n : Nat) : fl3 (upd f i x) n = if n / 3 = i then fl3 (fun _ => x) n else fl3 f n := by
  unfold fl3
  by_cases h : n / 3 = i
  · rw [if_pos h, h, upd_same]
  · rw [if_neg h, upd_other _ _ _ _ h]
theorem stF_withW (m : Nat) (S : Sto) (i : Nat) (x : En) (j : Nat) : stF m (S.withW i x) j = if 1027 ≤ j ∧ j < 1174 ∧ (j - 1027) / 3 = i then .int .i64 (fl3 (fun _ => x) (j - 1027)) else stF m S j := by
  unfold stF Sto.withW
  by_cases h0 : j = 0
  · rw [if_pos h0, if_pos h0, if_neg (by omega)]
  · rw [if_neg h0, if_neg h0]
    by_cases h1 : j < 1027
    · rw [if_pos h1, if_pos h1, if_neg (by omega)]
    · rw [if_neg h1, if_neg h1]
      by_cases h2 : j < 1174
      · rw [if_pos h2, if_pos h2, fl3_upd]
        by_cases h3 : (j - 1027) / 3 = i
        · rw [if_pos h3, if_pos ⟨by omega, h2, h3⟩]
        · rw [if_neg h3, if_neg (fun q => h3 q.2.2)]
      · rw [if_neg h2, if_neg h2, if_neg (show ¬ (1027 ≤ j ∧ j < 1174 ∧ (j - 1027) / 3 = i) by omega)]
theorem SRep.withW {m : Nat} {S : Sto} {w : World} {b : Nat} (h : SRep m S w b) (i : Nat) (hi : i < 49) (x : En) : SRep m (S.withW i x) (w.setCells b (1027 + i * 3) (ev x).toList) b := by
  refine (Blk.sets (ev x).toList w _ (1027 + i * 3) h).ext fun j hj => ?_
  rw [stF_withW, ev_list]
  by_cases c : 1027 + i * 3 ≤ j ∧ j < 1027 + i * 3 + 3
  · rw [if_pos (by simpa using c), if_pos ⟨by omega, by omega, by omega⟩]
    rcases (show j = 1027 + i * 3 ∨ j = 1027 + i * 3 + 1 ∨ j = 1027 + i * 3 + 2 by omega) with rfl | rfl | rfl
    · rw [show 1027 + i * 3 - (1027 + i * 3) = 0 by omega, show 1027 + i * 3 - 1027 = i * 3 by omega, fl3_0]; rfl
    · rw [show 1027 + i * 3 + 1 - (1027 + i * 3) = 1 by omega, show 1027 + i * 3 + 1 - 1027 = i * 3 + 1 by omega, fl3_1]; rfl
    · rw [show 1027 + i * 3 + 2 - (1027 + i * 3) = 2 by omega, show 1027 + i * 3 + 2 - 1027 = i * 3 + 2 by omega, fl3_2]; rfl
  · rw [if_neg (by simpa using c), if_neg (by omega)]
theorem SRep.line {m : Nat} {S : Sto} {w : World} {b : Nat} (h : SRep m S w b) (i : Nat) (hi : i < 49) (l : Int) : SRep m (S.withW i (moved (S.w i) l)) (w.setCell ⟨b, 1027 + i * 3 + 2, none⟩ (.int .i64 l)) b := by
  refine (Blk.set h (1027 + i * 3 + 2) (.int .i64 l)).ext fun j hj => ?_
  rw [stF_withW]
  by_cases e : j = 1027 + i * 3 + 2
  · subst e
    rw [upd_same, if_pos ⟨by omega, by omega, by omega⟩, show 1027 + i * 3 + 2 - 1027 = i * 3 + 2 by omega, fl3_2]; rfl
  · rw [upd_other _ _ _ _ e]
    by_cases c : 1027 ≤ j ∧ j < 1174 ∧ (j - 1027) / 3 = i
    · rw [if_pos c]
      obtain ⟨n, rfl⟩ : ∃ n, j = 1027 + n := ⟨j - 1027, by omega⟩
      rw [stF_w _ _ _ (by omega), show 1027 + n - 1027 = n by omega]
      rcases (show n = i * 3 ∨ n = i * 3 + 1 by omega) with rfl | rfl
      · rw [fl3_0, fl3_0]; rfl
      · rw [fl3_1, fl3_1]; rfl
    · rw [if_neg c]
section
variable {W w : World} {m b : Nat} {St : Mm → World → (Nat → Prop) → Prop} {S : Sto} {A : Mm} {G : Nat → Prop}
theorem SHas.line (M : MemL W m St) (h : SHas W m b St S A w G) (i : Nat) (hi : i < 49) (l : Int) :
    SHas W m b St (S.withW i (moved (S.w i) l)) A (w.setCell ⟨b, 1027 + i * 3 + 2, none⟩ (.int .i64 l)) G ∧ Same G w (w.setCell ⟨b, 1027 + i * 3 + 2, none⟩ (.int .i64 l)) :=
  h.turned M (SRep.line h.rep i hi l) (Keeps.setCell (F := (· = b)) (p := ⟨b, _, none⟩) (Keeps.refl _ _) rfl _)
theorem keeps_put3 (w : World) (b o : Nat) (x : En) : Keeps (· = b) w (w.setCells b o (ev x).toList) := by
  rw [ev_list]
  simp only [World.setCells]
  exact ((Keeps.setCell (F := (· = b)) (p := ⟨b, _, none⟩) (Keeps.refl _ _) rfl _).setCell (p := ⟨b, _, none⟩) rfl _).setCell (p := ⟨b, _, none⟩) rfl _
theorem SHas.put (M : MemL W m St) (h : SHas W m b St S A w G) (i : Nat) (hi : i < 49) (x : En) :
    SHas W m b St (S.withW i x) A (w.setCells b (1027 + i * 3) (ev x).toList) G ∧ Same G w (w.setCells b (1027 + i * 3) (ev x).toList) :=
  h.turned M (SRep.withW h.rep i hi x) (keeps_put3 _ _ _ _)
theorem SHas.there3 (h : SHas W m b St S A w G) (i : Nat) (hi : i < 49) : w.there b (1027 + i * 3) 3 := Blk.there h.rep _ _ (by omega)
end
theorem hasZ_inU {A : Mm} {B : Nat} (h : A.ok B) (z : Int) : ∀ j, InU (A.hasZ z j) := fun j => by
  unfold Mm.hasZ
  split
  · exact Ln.has_inU (h.2.2.1 _) j
  · show InU 0; exact ⟨by decide, by decide⟩
theorem copy_inU {A : Mm} {B : Nat} (h : A.ok B) (S : Sto) (z q v : Int) (hv : InU v) : ∀ j, InU (S.copy A z q v j) := fun j => by
  unfold Sto.copy upd
  split
  · exact hv
  · exact hasZ_inU h _ j

end Go.Proofs.YtiafhcgaikapcaaGreat
