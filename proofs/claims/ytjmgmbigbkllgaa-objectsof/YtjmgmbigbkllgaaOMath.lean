
/-
  A store of objects in plain mathematics: its frames, its tables, its Dir, and what each of its calls makes of it and of the memory beneath it. No program.
-/
import Derived.Test.YtjmgmbigbkllgaaPkNvm
import Derived.Test.YtjmgmbigbkllgaaFMath
import Derived.Test.YtjmgmbigbkllgaaEnRow
namespace Go.Proofs.Ytjmgmbigbkllgaa
set_option linter.unusedVariables false

/-- Frames; the working table, the base, its Dir; what is marked (noughts, if nothing is), and whether something is. -/
structure Sto where
  F : Fr
  w : Nat → En
  b : Nat → En
  d : Nat → Int
  k : Nat → En
  is : Bool

def v24 (z : Int) : Prop := 0 ≤ z ∧ z ≤ 16777215
def Sto.ok (S : Sto) : Prop := S.F.ok ∧ ∀ i, i < 49 → v24 (S.w i).v

/-- An object of the table lies in the line z. -/
def atB (x : En) (z : Int) : Bool := decide (x.k ≠ 0 ∧ x.l = z)
theorem atB_iff (x : En) (z : Int) : atB x z = true ↔ x.k ≠ 0 ∧ x.l = z := by unfold atB; rw [decide_eq_true_iff]
theorem atB_no {x : En} {z : Int} (h : ¬ (x.k ≠ 0 ∧ x.l = z)) : atB x z = false := by unfold atB; exact decide_eq_false h
def hasTo (f : Nat → En) (z : Int) (j : Nat) : Bool := (List.range j).any fun i => atB (f i) z
def hasB (f : Nat → En) (z : Int) : Bool := hasTo f z 49
theorem hasTo_iff (f : Nat → En) (z : Int) (j : Nat) : hasTo f z j = true ↔ ∃ i, i < j ∧ (f i).k ≠ 0 ∧ (f i).l = z := by
  unfold hasTo
  rw [List.any_eq_true]
  constructor
  · rintro ⟨i, hi, h⟩; exact ⟨i, List.mem_range.1 hi, (atB_iff _ _).1 h⟩
  · rintro ⟨i, hi, h⟩; exact ⟨i, List.mem_range.2 hi, (atB_iff _ _).2 h⟩
theorem hasB_iff (f : Nat → En) (z : Int) : hasB f z = true ↔ ∃ i, i < 49 ∧ (f i).k ≠ 0 ∧ (f i).l = z := hasTo_iff f z 49
theorem hasTo_zero (f : Nat → En) (z : Int) : hasTo f z 0 = false := rfl
theorem hasTo_next (f : Nat → En) (z : Int) (j : Nat) : hasTo f z (j + 1) = (hasTo f z j || atB (f j) z) := by
  unfold hasTo
  rw [List.range_succ, List.any_append]
  simp
theorem hasB_of {f : Nat → En} {z : Int} {j : Nat} (hj : j < 49) (h : atB (f j) z = true) : hasB f z = true := (hasB_iff f z).2 ⟨j, hj, (atB_iff _ _).1 h⟩
theorem hasB_ze (z : Int) : hasB (fun _ => ze) z = false := by
  rcases Bool.eq_false_or_eq_true (hasB (fun _ => ze) z) with h | h
  · obtain ⟨i, _, h1, _⟩ := (hasB_iff _ _).1 h; exact absurd rfl h1
  · exact h
theorem hasB_no {f : Nat → En} {z : Int} (h : hasB f z = false) (i : Nat) (hi : i < 49) (hk : (f i).k ≠ 0) : (f i).l ≠ z := fun e => by
  rw [(hasB_iff f z).2 ⟨i, hi, hk, e⟩] at h; cases h
theorem hasB_ext {f g : Nat → En} (h : ∀ i, i < 49 → f i = g i) (z : Int) : hasB f z = hasB g z := by
  rw [Bool.eq_iff_iff, hasB_iff, hasB_iff]
  constructor
  · rintro ⟨i, hi, h1, h2⟩; exact ⟨i, hi, by rw [← h i hi]; exact h1, by rw [← h i hi]; exact h2⟩
  · rintro ⟨i, hi, h1, h2⟩; exact ⟨i, hi, by rw [h i hi]; exact h1, by rw [h i hi]; exact h2⟩
def Sto.own (S : Sto) (z : Int) : Bool := !hasB S.b z && !hasB S.k z
theorem own_iff (S : Sto) (z : Int) : S.own z = true ↔ hasB S.b z = false ∧ hasB S.k z = false := by unfold Sto.own; simp
def Sto.findE (S : Sto) (z : Int) : Int := if 0 ≤ z ∧ z < 49 then if (S.w z.toNat).k = 0 then 30 else 0 else 1
theorem findE_ok {S : Sto} {z : Int} (h : S.findE z = 0) : 0 ≤ z ∧ z < 49 ∧ (S.w z.toNat).k ≠ 0 := by
  unfold Sto.findE at h
  split at h
  · split at h
    · cases h
    · rename_i a b; exact ⟨a.1, a.2, b⟩
  · cases h
/-- The entry that is found. -/
def Sto.at (S : Sto) (z : Int) : En := if S.findE z = 0 then S.w z.toNat else ze

/-! ### eight words stored, one behind the other -/
def layP (A : Mm) (z : Int) (l : Nat → Int) : Nat → Mm × Int
  | 0 => (A, 0)
  | k + 1 => if (layP A z l k).2 = 0 then ((layP A z l k).1.storeZ z k (l k), (layP A z l k).1.storeE z k) else layP A z l k
theorem layP_next {A : Mm} {z : Int} {l : Nat → Int} {k : Nat} (h : (layP A z l k).2 = 0) : layP A z l (k + 1) = ((layP A z l k).1.storeZ z k (l k), (layP A z l k).1.storeE z k) := if_pos h
theorem layP_stuck {A : Mm} {z : Int} {l : Nat → Int} {k : Nat} (h : (layP A z l k).2 ≠ 0) (m : Nat) : layP A z l (k + m) = layP A z l k := by
  induction m with
  | zero => rfl
  | succ m ih =>
    show (if (layP A z l (k + m)).2 = 0 then _ else layP A z l (k + m)) = _
    rw [ih, if_neg h]
theorem layP_n (A : Mm) (z : Int) (l : Nat → Int) (k : Nat) : (layP A z l k).1.n = A.n := by
  induction k with
  | zero => rfl
  | succ k ih =>
    unfold layP
    split
    · exact (storeZ_n _ _ _ _).trans ih
    · exact ih
theorem layP_ok {A : Mm} {B : Nat} (h : A.ok B) (z : Int) (l : Nat → Int) (hl : ∀ j, InU (l j)) (k : Nat) : (layP A z l k).1.ok (B + k) := by
  induction k with
  | zero => exact h
  | succ k ih =>
    unfold layP
    split
    · exact ok_storeZ ih z k (l k) (hl k)
    · exact ok_mono ih (by omega)
/-- What lay leaves: the memory; what it tells: the error (0: none). -/
def Sto.layM (S : Sto) (A : Mm) (l : Nat → Int) : Mm := if S.F.allocE = 0 then (layP A S.F.allocV l 8).1 else A
def Sto.layE (S : Sto) (A : Mm) (l : Nat → Int) : Int := if S.F.allocE = 0 then (layP A S.F.allocV l 8).2 else S.F.allocE
def Sto.layV (S : Sto) (A : Mm) (l : Nat → Int) : Int := if S.layE A l = 0 then S.F.allocV else 0
def Sto.took (S : Sto) : Sto := ⟨S.F.allocA, S.w, S.b, S.d, S.k, S.is⟩
theorem layM_n (S : Sto) (A : Mm) (l : Nat → Int) : (S.layM A l).n = A.n := by
  unfold Sto.layM; split
  · exact layP_n _ _ _ _
  · rfl
theorem layM_ok {S : Sto} {A : Mm} {B : Nat} (h : A.ok B) (l : Nat → Int) (hl : ∀ j, InU (l j)) : (S.layM A l).ok (B + 8) := by
  unfold Sto.layM; split
  · exact layP_ok h _ _ hl 8
  · exact ok_mono h (by omega)

/-! ### Set -/
def Sto.withW (S : Sto) (i : Nat) (x : En) : Sto := ⟨S.F, upd S.w i x, S.b, S.d, S.k, S.is⟩
def Sto.line (S : Sto) (z : Int) : Int := (S.w z.toNat).l
def moved (x : En) (l : Int) : En := ⟨x.k, x.v, l⟩
/-- What a copy of an object's line has, with the word set. -/
def Sto.copy (S : Sto) (A : Mm) (z q v : Int) : Nat → Int := upd (A.hasZ (S.line z)) q.toNat v
def Sto.setM (S : Sto) (A : Mm) (z q v : Int) : Mm :=
  if is8 q ∧ S.findE z = 0 then
    if S.own (S.line z) = true then A.storeZ (S.line z) q v
    else if S.F.left ≠ 0 ∧ A.loadE (S.line z) = 0 then S.layM A (S.copy A z q v) else A
  else A
def Sto.setS (S : Sto) (A : Mm) (z q v : Int) : Sto :=
  if is8 q ∧ S.findE z = 0 then
    if S.own (S.line z) = true then S
    else if S.F.left ≠ 0 ∧ A.loadE (S.line z) = 0 then
      (if S.layE A (S.copy A z q v) = 0 then S.took.withW z.toNat (moved (S.w z.toNat) S.F.allocV) else S.took)
    else S
  else S
def Sto.setE (S : Sto) (A : Mm) (z q v : Int) : Int :=
  if is8 q then
    if S.findE z = 0 then
      if S.own (S.line z) = true then A.storeE (S.line z) q
      else if S.F.left = 0 then 10
      else if A.loadE (S.line z) = 0 then S.layE A (S.copy A z q v) else A.loadE (S.line z)
    else S.findE z
  else 1

/-! ### Next, Make, End -/
def Sto.nx (S : Sto) : Option Nat := (List.range 49).find? fun i => opB (S.w i)
def mkB (z : Int) : Bool := decide (z = 1 ∨ z = 2 ∨ z = 4)
theorem mkB_iff (z : Int) : mkB z = true ↔ z = 1 ∨ z = 2 ∨ z = 4 := by unfold mkB; rw [decide_eq_true_iff]
def Sto.nextE (S : Sto) (z : Int) : Int := if mkB z = true then (match S.nx with | some _ => 0 | none => 34) else 1
def Sto.nextI (S : Sto) (z : Int) : Int := if mkB z = true then (match S.nx with | some i => (i : Int) | none => 0) else 0
def Sto.nextV (S : Sto) (z : Int) : Int := if mkB z = true then (match S.nx with | some i => (S.w i).v | none => 0) else 0
theorem nx_some {S : Sto} {k : Nat} (hk : k < 49) (hf : opB (S.w k) = true) (hn : ∀ i, i < k → opB (S.w i) = false) : S.nx = some k := by
  unfold Sto.nx
  obtain ⟨m, hm⟩ : ∃ m, 49 = k + 1 + m := ⟨49 - (k + 1), by omega⟩
  rw [hm, List.range_add, List.find?_append, List.range_succ, List.find?_append, find_none (fun x hx => hn x (List.mem_range.1 hx))]
  simp [hf]
theorem nx_none {S : Sto} (hn : ∀ i, i < 49 → opB (S.w i) = false) : S.nx = none := find_none fun x hx => hn x (List.mem_range.1 hx)
theorem nx_spec {S : Sto} {k : Nat} (h : S.nx = some k) : k < 49 ∧ opB (S.w k) = true := ⟨List.mem_range.1 (List.mem_of_find?_eq_some h), List.find?_some (p := fun i => opB (S.w i)) h⟩
theorem nextE_ok {S : Sto} {z : Int} (h : S.nextE z = 0) : ∃ k : Nat, S.nextI z = k ∧ k < 49 ∧ opB (S.w k) = true ∧ S.nextV z = (S.w k).v ∧ S.nx = some k ∧ mkB z = true := by
  unfold Sto.nextE at h
  split at h
  · rename_i hm
    cases hx : S.nx with
    | none => rw [hx] at h; cases h
    | some k =>
      refine ⟨k, ?_, (nx_spec hx).1, (nx_spec hx).2, ?_, rfl, hm⟩
      · unfold Sto.nextI; rw [if_pos hm, hx]
      · unfold Sto.nextV; rw [if_pos hm, hx]
  · cases h
def zeroL : Nat → Int := fun _ => 0
def Sto.makeM (S : Sto) (A : Mm) (z : Int) : Mm := if S.nextE z = 0 then S.layM A zeroL else A
def Sto.makeS (S : Sto) (A : Mm) (z : Int) : Sto :=
  if S.nextE z = 0 then (if S.layE A zeroL = 0 then S.took.withW (S.nextI z).toNat ⟨z, S.nextV z, S.F.allocV⟩ else S.took) else S
def Sto.makeE (S : Sto) (A : Mm) (z : Int) : Int := if S.nextE z = 0 then S.layE A zeroL else S.nextE z
def Sto.makeI (S : Sto) (A : Mm) (z : Int) : Int := if S.makeE A z = 0 then S.nextI z else 0
/-- The frames behind an End. -/
def Sto.endF (S : Sto) (z : Int) : Fr := if S.own (S.line z) = true then S.F.turnA (S.line z) 1 0 else S.F
def Sto.endS (S : Sto) (z : Int) : Sto := if S.findE z = 0 then ⟨S.endF z, upd S.w z.toNat (endV (S.w z.toNat)), S.b, S.d, S.k, S.is⟩ else S

/-! ### Mark, Commit, Abort, Room -/
def Sto.markS (S : Sto) : Sto := if S.is then S else ⟨S.F, S.w, S.b, S.d, S.w, true⟩
def Sto.markE (S : Sto) : Int := if S.is then 3 else 0
def inD (d : Nat → Int) (z : Int) : Bool := (List.range 8).any fun i => d i == z
theorem inD_iff (d : Nat → Int) (z : Int) : inD d z = true ↔ ∃ i, i < 8 ∧ d i = z := by
  unfold inD; rw [List.any_eq_true]
  constructor
  · rintro ⟨i, hi, h⟩; exact ⟨i, List.mem_range.1 hi, by simpa using h⟩
  · rintro ⟨i, hi, h⟩; exact ⟨i, List.mem_range.2 hi, by simpa using h⟩
/-- A line that the base, its Dir or the working table names. -/
def Sto.nmB (S : Sto) (i : Nat) : Bool := inD S.d i || hasB S.b i || hasB S.w i
/-- Each frame below k that is taken, and not named, is free. -/
def Fr.freeTo (A : Fr) (nm : Nat → Bool) (k : Nat) : Fr := ⟨A.lo, A.hi, fun i => if ((A.lo ≤ i ∧ i < A.hi) ∧ i < k) ∧ A.s i = 1 ∧ nm i = false then 0 else A.s i⟩
def Sto.freed (S : Sto) : Sto := ⟨S.F.freeTo S.nmB 1024, S.w, S.b, S.d, S.k, S.is⟩
def Sto.unmarkS (S : Sto) : Sto := (Sto.mk S.F S.w S.b S.d (fun _ => ze) false).freed
def Sto.commitS (S : Sto) (d : Nat → Int) : Sto := if S.is then (Sto.mk S.F S.w S.k d S.k S.is).unmarkS else S
def Sto.abortS (S : Sto) : Sto := if S.is then S.unmarkS else S
def Sto.doneE (S : Sto) : Int := if S.is then 0 else 3
theorem lt_of_ne {i k : Nat} (h : i < k + 1) (hn : i ≠ k) : i < k := by omega
theorem freeTo_zero (A : Fr) (nm : Nat → Bool) : A.freeTo nm 0 = A := by
  unfold Fr.freeTo; cases A with | mk lo hi s => simp
theorem freeTo_next (A : Fr) (nm : Nat → Bool) (k : Nat) (h : nm k = false) : A.freeTo nm (k + 1) = (A.freeTo nm k).turnA (k : Int) 1 0 := by
  have es : (A.freeTo nm k).s k = A.s k := if_neg (by omega)
  unfold Fr.turnA
  rw [st_nat]
  show _ = if (if A.lo ≤ k ∧ k < A.hi then (A.freeTo nm k).s k else -1) = 1 then _ else _
  rw [es, Int.toNat_natCast]
  by_cases hf : A.lo ≤ k ∧ k < A.hi
  · rw [if_pos hf]
    by_cases h1 : A.s k = 1
    · rw [if_pos h1]
      unfold Fr.freeTo Fr.put
      congr 1
      funext i
      by_cases hi : i = k
      · subst hi; rw [upd_same, if_pos ⟨⟨hf, by omega⟩, h1, h⟩]
      · rw [upd_other _ _ _ _ hi]
        show _ = if ((A.lo ≤ i ∧ i < A.hi) ∧ i < k) ∧ A.s i = 1 ∧ nm i = false then (0 : Int) else A.s i
        by_cases c : ((A.lo ≤ i ∧ i < A.hi) ∧ i < k) ∧ A.s i = 1 ∧ nm i = false
        · rw [if_pos c, if_pos ⟨⟨c.1.1, by omega⟩, c.2⟩]
        · rw [if_neg c, if_neg (fun q => c ⟨⟨q.1.1, by omega⟩, q.2⟩)]
    · rw [if_neg h1]
      unfold Fr.freeTo
      congr 1
      funext i
      by_cases c : ((A.lo ≤ i ∧ i < A.hi) ∧ i < k) ∧ A.s i = 1 ∧ nm i = false
      · rw [if_pos c, if_pos ⟨⟨c.1.1, by omega⟩, c.2⟩]
      · rw [if_neg c, if_neg (fun q => c ⟨⟨q.1.1, lt_of_ne q.1.2 fun e => h1 (e ▸ q.2.1)⟩, q.2⟩)]
  · rw [if_neg hf, if_neg (by decide)]
    unfold Fr.freeTo
    congr 1
    funext i
    by_cases c : ((A.lo ≤ i ∧ i < A.hi) ∧ i < k) ∧ A.s i = 1 ∧ nm i = false
    · rw [if_pos c, if_pos ⟨⟨c.1.1, by omega⟩, c.2⟩]
    · rw [if_neg c, if_neg (fun q => c ⟨⟨q.1.1, lt_of_ne q.1.2 fun e => hf (e ▸ q.1.1)⟩, q.2⟩)]
theorem freeTo_same (A : Fr) (nm : Nat → Bool) (k : Nat) (h : nm k = true) : A.freeTo nm (k + 1) = A.freeTo nm k := by
  unfold Fr.freeTo
  congr 1
  funext i
  by_cases c : ((A.lo ≤ i ∧ i < A.hi) ∧ i < k) ∧ A.s i = 1 ∧ nm i = false
  · rw [if_pos c, if_pos ⟨⟨c.1.1, by omega⟩, c.2⟩]
  · rw [if_neg c, if_neg (fun q => c ⟨⟨q.1.1, lt_of_ne q.1.2 fun e => by have := q.2.2; rw [e, h] at this; cases this⟩, q.2⟩)]
theorem freeTo_ok {A : Fr} (h : A.ok) (nm : Nat → Bool) (k : Nat) : (A.freeTo nm k).ok := ⟨h.1, h.2.1, fun j => by
  show (if ((A.lo ≤ j ∧ j < A.hi) ∧ j < k) ∧ A.s j = 1 ∧ nm j = false then (0 : Int) else A.s j) = 0 ∨ (if ((A.lo ≤ j ∧ j < A.hi) ∧ j < k) ∧ A.s j = 1 ∧ nm j = false then (0 : Int) else A.s j) = 1 ∨ (if ((A.lo ≤ j ∧ j < A.hi) ∧ j < k) ∧ A.s j = 1 ∧ nm j = false then (0 : Int) else A.s j) = 2
  split
  · exact Or.inl rfl
  · exact h.2.2 j⟩
/-- An object that is there, in a line that is not its own. -/
def Sto.wants (S : Sto) (z : Int) : Bool := decide (S.findE z = 0) && !S.own (S.line z)
def Sto.needTo (S : Sto) (l : List Int) (j : Nat) : Nat := (List.range j).countP fun i => S.wants (l.getD i 0) && !((l.take i).contains (l.getD i 0))
def Sto.roomB (S : Sto) (l : List Int) (m : Int) : Bool := decide (0 ≤ m ∧ m ≤ (S.F.left : Int) - (S.needTo l l.length : Int))
theorem needTo_next (S : Sto) (l : List Int) (j : Nat) : S.needTo l (j + 1) = S.needTo l j + (if (S.wants (l.getD j 0) && !((l.take j).contains (l.getD j 0))) = true then 1 else 0) := by
  unfold Sto.needTo
  rw [List.range_succ, List.countP_append]
  simp [List.countP_cons]
theorem needTo_le (S : Sto) (l : List Int) (j : Nat) : S.needTo l j ≤ j := by
  have := List.countP_le_length (p := fun i => S.wants (l.getD i 0) && !((l.take i).contains (l.getD i 0))) (l := List.range j)
  rw [List.length_range] at this
  exact this

/-! ### stores stay stores -/
theorem upd_lt {α : Type} {P : α → Prop} {f : Nat → α} {n : Nat} (h : ∀ i, i < n → P (f i)) (k : Nat) {v : α} (hv : P v) : ∀ i, i < n → P (upd f k v i) := fun i hi => by
  unfold upd; split
  · exact hv
  · exact h i hi
theorem took_ok {S : Sto} (h : S.ok) : S.took.ok := ⟨alloc_ok h.1, h.2⟩
theorem withW_ok {S : Sto} (h : S.ok) (i : Nat) (x : En) (hx : v24 x.v) : (S.withW i x).ok := ⟨h.1, upd_lt (P := fun e : En => v24 e.v) h.2 i hx⟩
theorem setS_ok {S : Sto} (h : S.ok) (A : Mm) (z q v : Int) : (S.setS A z q v).ok := by
  unfold Sto.setS
  split
  · rename_i c
    have hz := findE_ok c.2
    split
    · exact h
    · split
      · split
        · exact withW_ok (took_ok h) _ _ (h.2 z.toNat (by omega))
        · exact took_ok h
      · exact h
  · exact h
theorem makeS_ok {S : Sto} (h : S.ok) (A : Mm) (z : Int) : (S.makeS A z).ok := by
  unfold Sto.makeS
  split
  · rename_i c
    obtain ⟨k, e1, hk, _, e2, _, _⟩ := nextE_ok c
    split
    · refine withW_ok (took_ok h) _ _ ?_
      show v24 (S.nextV z)
      rw [e2]; exact h.2 k hk
    · exact took_ok h
  · exact h
theorem endF_ok {S : Sto} (h : S.ok) (z : Int) : (S.endF z).ok := by
  unfold Sto.endF; split
  · exact turn_ok h.1 _ _ (Or.inl rfl)
  · exact h.1
theorem endV_v24 {x : En} (h : v24 x.v) : v24 (endV x).v := by
  unfold endV
  split
  · exact ⟨by decide, by decide⟩
  · show v24 (Go.Proofs.Ytjmgmbigbkllgaa.nextI x.v)
    unfold Go.Proofs.Ytjmgmbigbkllgaa.nextI v24
    unfold v24 at h
    split <;> omega
theorem endS_ok {S : Sto} (h : S.ok) (z : Int) : (S.endS z).ok := by
  unfold Sto.endS
  split
  · rename_i c
    have hz := findE_ok c
    exact ⟨endF_ok h z, upd_lt (P := fun e : En => v24 e.v) h.2 _ (endV_v24 (h.2 z.toNat (by omega)))⟩
  · exact h
theorem markS_ok {S : Sto} (h : S.ok) : S.markS.ok := by unfold Sto.markS; split <;> exact ⟨h.1, h.2⟩
theorem freed_ok {S : Sto} (h : S.ok) : S.freed.ok := ⟨freeTo_ok h.1 _ _, h.2⟩
theorem unmarkS_ok {S : Sto} (h : S.ok) : S.unmarkS.ok := freed_ok (S := Sto.mk S.F S.w S.b S.d (fun _ => ze) false) ⟨h.1, h.2⟩
theorem commitS_ok {S : Sto} (h : S.ok) (d : Nat → Int) : (S.commitS d).ok := by
  unfold Sto.commitS; split
  · exact unmarkS_ok (S := Sto.mk S.F S.w S.k d S.k S.is) ⟨h.1, h.2⟩
  · exact h
theorem abortS_ok {S : Sto} (h : S.ok) : S.abortS.ok := by
  unfold Sto.abortS; split
  · exact unmarkS_ok h
  · exact h

end Go.Proofs.Ytjmgmbigbkllgaa
