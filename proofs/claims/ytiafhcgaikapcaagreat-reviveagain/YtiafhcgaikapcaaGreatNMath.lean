
/-
  Memories in plain mathematics: a line (what is sure, the stores since, how many of them each core has flushed), and what a memory's calls make of it. No program.
-/
import Derived.WalkKit
namespace Go.Proofs.YtiafhcgaikapcaaGreat

def upd {α : Type} (f : Nat → α) (k : Nat) (v : α) : Nat → α := fun i => if i = k then v else f i
theorem upd_same {α : Type} (f : Nat → α) (k : Nat) (v : α) : upd f k v k = v := by simp [upd]
theorem upd_other {α : Type} (f : Nat → α) (k : Nat) (v : α) (i : Nat) (h : i ≠ k) : upd f k v i = f i := by simp [upd, h]

/-- Stores done, one behind the other. -/
def runS : List (Nat × Int) → (Nat → Int) → (Nat → Int)
  | [], f => f
  | (w, v) :: r, f => runS r (upd f w v)
theorem runS_append (a b : List (Nat × Int)) (f : Nat → Int) : runS (a ++ b) f = runS b (runS a f) := by
  induction a generalizing f with
  | nil => rfl
  | cons x r ih => exact ih _
theorem runS_snoc (a : List (Nat × Int)) (w : Nat) (v : Int) (f : Nat → Int) : runS (a ++ [(w, v)]) f = upd (runS a f) w v := by rw [runS_append]; rfl
theorem runS_take (t : List (Nat × Int)) (k : Nat) (h : k < t.length) (f : Nat → Int) : runS (t.take (k + 1)) f = upd (runS (t.take k) f) (t[k]).1 (t[k]).2 := by
  rw [List.take_succ_eq_append_getElem h, runS_append]; rfl
theorem runS_parts (t : List (Nat × Int)) (n : Nat) (f : Nat → Int) : runS (t.drop n) (runS (t.take n) f) = runS t f := by
  rw [← runS_append, List.take_append_drop]

def InU (z : Int) : Prop := 0 ≤ z ∧ z ≤ 18446744073709551615

/-- A line: sure, stores, flushed. -/
structure Ln where
  s : Nat → Int
  t : List (Nat × Int)
  f : Nat → Nat

def Ln.ok (l : Ln) : Prop := (∀ j, InU (l.s j)) ∧ (∀ p ∈ l.t, p.1 < 8 ∧ InU p.2) ∧ ∀ j, l.f j ≤ l.t.length
def Ln.has (l : Ln) : Nat → Int := runS l.t l.s
def Ln.settle (l : Ln) (n : Nat) : Ln := ⟨runS (l.t.take n) l.s, l.t.drop n, fun j => l.f j - n⟩
def Ln.store (l : Ln) (w : Nat) (v : Int) : Ln := ⟨l.s, l.t ++ [(w, v)], l.f⟩
def Ln.flush (l : Ln) (c : Nat) : Ln := ⟨l.s, l.t, upd l.f c l.t.length⟩
/-- What is sure alone. -/
def Ln.lose (l : Ln) : Ln := ⟨l.s, [], fun _ => 0⟩
def Ln.of (s : Nat → Int) : Ln := ⟨s, [], fun _ => 0⟩

theorem upd_inU {f : Nat → Int} (h : ∀ j, InU (f j)) (w : Nat) {v : Int} (hv : InU v) : ∀ j, InU (upd f w v j) := fun j => by
  unfold upd; split
  · exact hv
  · exact h j
theorem runS_inU (t : List (Nat × Int)) (f : Nat → Int) (h : ∀ j, InU (f j)) (ht : ∀ p ∈ t, p.1 < 8 ∧ InU p.2) : ∀ j, InU (runS t f j) := by
  induction t generalizing f with
  | nil => exact h
  | cons x r ih => exact ih _ (upd_inU h _ (ht x (by simp)).2) (fun p hp => ht p (by simp [hp]))
theorem Ln.settle_zero (l : Ln) : l.settle 0 = l := by cases l; rfl
theorem Ln.settle_has (l : Ln) (n : Nat) : (l.settle n).has = l.has := runS_parts _ _ _
theorem Ln.store_has (l : Ln) (w : Nat) (v : Int) : (l.store w v).has = upd l.has w v := runS_snoc _ _ _ _
theorem Ln.lose_has (l : Ln) : l.lose.has = l.s := rfl
theorem Ln.settle_ok {l : Ln} (h : l.ok) (n : Nat) : (l.settle n).ok :=
  ⟨runS_inU _ _ h.1 (fun p hp => h.2.1 p (List.mem_of_mem_take hp)), fun p hp => h.2.1 p (List.mem_of_mem_drop hp), fun j => by have := h.2.2 j; simp [Ln.settle]; omega⟩
theorem Ln.store_ok {l : Ln} (h : l.ok) (w : Nat) (v : Int) (hw : w < 8) (hv : InU v) : (l.store w v).ok :=
  ⟨h.1, fun p hp => by
    simp only [Ln.store, List.mem_append, List.mem_singleton] at hp
    rcases hp with hp | rfl
    · exact h.2.1 p hp
    · exact ⟨hw, hv⟩, fun j => by have := h.2.2 j; simp [Ln.store]; omega⟩
theorem Ln.flush_ok {l : Ln} (h : l.ok) (c : Nat) : (l.flush c).ok :=
  ⟨h.1, h.2.1, fun j => by
    have := h.2.2 j
    simp only [Ln.flush, upd]; split <;> omega⟩
theorem Ln.lose_ok {l : Ln} (h : l.ok) : l.lose.ok := ⟨h.1, by simp [Ln.lose], fun _ => Nat.le_refl _⟩
theorem Ln.of_ok {s : Nat → Int} (h : ∀ j, InU (s j)) : (Ln.of s).ok := ⟨h, by simp [Ln.of], fun _ => Nat.le_refl _⟩
theorem Ln.has_inU {l : Ln} (h : l.ok) : ∀ j, InU (l.has j) := runS_inU _ _ h.1 h.2.1

/-- A memory, by what it does. -/
structure Mm where
  n : Nat
  l : Nat → Ln
  on : Bool
  fuse : Int
  steps : Nat

/-- The number of a line among those that are not sure. -/
def rank (l : Nat → Ln) : Nat → Nat
  | 0 => 0
  | i + 1 => rank l i + if (l i).t.length = 0 then 0 else 1
theorem rank_le (l : Nat → Ln) (i : Nat) : rank l i ≤ i := by
  induction i with
  | zero => exact Nat.le_refl _
  | succ i ih => unfold rank; split <;> omega
/-- How many stores of a line last: by what keep says at its number. -/
def keptN (keep : List Int) (i m : Nat) : Nat :=
  if i < keep.length then
    let k := keep.getD i 0
    ((if k < 0 then -(k + 1) else k) % ((m : Int) + 1)).toNat
  else 0
theorem keptN_le (keep : List Int) (i m : Nat) : keptN keep i m ≤ m := by
  unfold keptN
  split
  · have : ((if keep.getD i 0 < 0 then -(keep.getD i 0 + 1) else keep.getD i 0) % ((m : Int) + 1)) < (m : Int) + 1 := Int.emod_lt_of_pos _ (by omega)
    simp only []; omega
  · omega
/-- Which of n kinds. -/
def kindN (z : Int) (n : Nat) : Nat := ((if z < 0 then -(z + 1) else z) % (n : Int)).toNat
theorem kindN_lt (z : Int) (n : Nat) (h : 1 ≤ n) : kindN z n < n := by
  unfold kindN
  have : ((if z < 0 then -(z + 1) else z) % (n : Int)) < (n : Int) := Int.emod_lt_of_pos _ (by omega)
  have := Int.emod_nonneg (if z < 0 then -(z + 1) else z) (show (n : Int) ≠ 0 by omega)
  omega
def crashL (keep : List Int) (l : Nat → Ln) (i : Nat) : Ln := ((l i).settle (keptN keep (rank l i) (l i).t.length)).lose

def Mm.may (A : Mm) : Bool := A.on && decide (A.fuse ≠ 0)
/-- A step that is done. -/
def Mm.stepped (A : Mm) (l : Nat → Ln) : Mm := ⟨A.n, l, A.on, if A.fuse > 0 then A.fuse - 1 else A.fuse, A.steps + 1⟩
/-- A step that is not. -/
def Mm.off (A : Mm) : Mm := ⟨A.n, A.l, false, A.fuse, A.steps⟩
def Mm.err (A : Mm) : Int := if A.may then 0 else 4
def Mm.step (A : Mm) (l : Nat → Ln) : Mm := if A.may then A.stepped l else A.off
def Mm.store (A : Mm) (i w : Nat) (v : Int) : Mm := A.step (upd A.l i ((A.l i).store w v))
def Mm.flush (A : Mm) (c i : Nat) : Mm := A.step (upd A.l i ((A.l i).flush c))
def Mm.fence (A : Mm) (c : Nat) : Mm := A.step (fun i => (A.l i).settle ((A.l i).f c))
def Mm.evict (A : Mm) (i n : Nat) : Mm := ⟨A.n, upd A.l i ((A.l i).settle (min n (A.l i).t.length)), A.on, A.fuse, A.steps⟩
def Mm.fused (A : Mm) (z : Int) : Mm := ⟨A.n, A.l, A.on, if z < -1 then -1 else z, A.steps⟩
def Mm.crash (A : Mm) (keep : List Int) : Mm := ⟨A.n, crashL keep A.l, true, -1, A.steps⟩
def Mm.new (n : Nat) (s : Nat → Nat → Int) : Mm := ⟨n, fun i => Ln.of (s i), true, -1, 0⟩
/-- The numbers of a memory that is: its size, its fuse; its steps are as many as an int holds. -/
def Mm.ok (A : Mm) (B : Nat) : Prop := 64 ≤ A.n ∧ A.n ≤ 1024 ∧ (∀ i, (A.l i).ok) ∧ (∀ i, (A.l i).t.length ≤ B) ∧ -1 ≤ A.fuse ∧ A.fuse ≤ 9223372036854775807 ∧ A.steps ≤ B

end Go.Proofs.YtiafhcgaikapcaaGreat
