
/-
  What a directory's lines are, in plain mathematics: the names in their order, when all of them may be named, what is loaded.
-/
import Derived.Test.YtnjicfnigfkppabXNames
namespace Go.Proofs.Ytnjicfnigfkppab
set_option linter.unusedVariables false

def okN (n : Nat) (fr : Int) (ns : List Int) : Bool := decide ((∀ z ∈ ns, 0 ≤ z ∧ fr ≤ z ∧ z < n) ∧ ns.Nodup)
theorem okN_iff (n : Nat) (fr : Int) (ns : List Int) : okN n fr ns = true ↔ (∀ z ∈ ns, 0 ≤ z ∧ fr ≤ z ∧ z < n) ∧ ns.Nodup := by unfold okN; rw [decide_eq_true_iff]
theorem okN_snoc (n : Nat) (fr : Int) (ns : List Int) (z : Int) : okN n fr (ns ++ [z]) = true ↔ okN n fr ns = true ∧ nmB n fr ns z = true := by
  rw [okN_iff, okN_iff]
  unfold nmB
  rw [decide_eq_true_iff, List.nodup_append]
  constructor
  · rintro ⟨h1, h2, -, h3⟩
    have hz := h1 z (by simp)
    exact ⟨⟨fun y hy => h1 y (by simp [hy]), h2⟩, hz.1, hz.2.1, hz.2.2, fun hm => h3 z hm z (by simp) rfl⟩
  · rintro ⟨⟨h1, h2⟩, h3, h4, h5, h6⟩
    refine ⟨fun y hy => ?_, h2, by simp, fun a ha b hb e => ?_⟩
    · rcases List.mem_append.1 hy with hy | hy
      · exact h1 y hy
      · simp at hy; subst hy; exact ⟨h3, h4, h5⟩
    · simp at hb; subst hb; subst e; exact h6 ha
theorem okN_prefix {n : Nat} {fr : Int} {ns ms : List Int} (h : okN n fr (ns ++ ms) = true) : okN n fr ns = true := by
  rw [okN_iff] at h ⊢
  exact ⟨fun z hz => h.1 z (by simp [hz]), (List.nodup_append.1 h.2).1⟩
theorem okN_mem {n : Nat} {fr : Int} {ns : List Int} (h : okN n fr ns = true) {z : Int} (hz : z ∈ ns) : 0 ≤ z ∧ fr ≤ z ∧ z < n := ((okN_iff _ _ _).1 h).1 z hz
theorem bool_not {b : Bool} (h : b = true → False) : b = false := by
  cases b with
  | false => rfl
  | true => exact (h rfl).elim

/-- The objects' lines of the first j entries. -/
def objTo (x : List Int) : Nat → List Int
  | 0 => []
  | j + 1 => objTo x j ++ (if (enAt x j).k = 0 then [] else [(enAt x j).l])
theorem objTo_len (x : List Int) : ∀ j, (objTo x j).length ≤ j
  | 0 => by simp [objTo]
  | j + 1 => by
    have := objTo_len x j
    rw [objTo, List.length_append]
    split <;> simp <;> omega
theorem objTo_prefix (x : List Int) (j m : Nat) : ∃ r, objTo x (j + m) = objTo x j ++ r := by
  induction m with
  | zero => exact ⟨[], by simp⟩
  | succ m ih =>
    obtain ⟨r, hr⟩ := ih
    refine ⟨r ++ (if (enAt x (j + m)).k = 0 then [] else [(enAt x (j + m)).l]), ?_⟩
    rw [← Nat.add_assoc, objTo, hr, List.append_assoc]
theorem objTo_seven (x : List Int) (j : Nat) (h : j ≤ 7) : ∃ r, objTo x 7 = objTo x j ++ r := by
  have := objTo_prefix x j (7 - j)
  rwa [show j + (7 - j) = 7 by omega] at this
theorem objTo_may (x : List Int) (hm : ∀ i, i < 7 → mayN (enAt x i) = true) : ∀ j, j ≤ 7 → ∀ z ∈ objTo x j, 0 ≤ z
  | 0, _, z, hz => by simp [objTo] at hz
  | j + 1, hj, z, hz => by
    rw [objTo, List.mem_append] at hz
    rcases hz with hz | hz
    · exact objTo_may x hm j (by omega) z hz
    · split at hz
      · simp at hz
      · simp at hz; subst hz; exact ((mayN_iff _).1 (hm j (by omega))).2.2.2.2.1

/-- A leaf: its line may be named, is a leaf's, and so may its objects' lines. -/
def lfB (n : Nat) (fr : Int) (A : Mm) (ns : List Int) (z : Int) : Bool := nmB n fr ns z && (isX (lineA A z.toNat) && okN n fr (ns ++ [z] ++ objTo (readX (lineA A z.toNat)) 7))
def lfV (n : Nat) (fr : Int) (A : Mm) (ns : List Int) (z : Int) : List Int := if lfB n fr A ns z then readX (lineA A z.toNat) else zrow 7
theorem lfV_len (n : Nat) (fr : Int) (A : Mm) (ns : List Int) (z : Int) : (lfV n fr A ns z).length = 21 := by unfold lfV; split; exact readX_len _; exact zrow_len 7
theorem readX_l (l : List Int) (hi : isX l = true) (j : Nat) (h : j < 7) : mayN (enAt (readX l) j) = true := by
  have ha : allN l = true := by unfold isX at hi; rw [Bool.and_eq_true] at hi; exact hi.1
  exact (mayX_iff _).1 (readX_may l ha) j h

/-- The leaves' lines of a root. -/
def lsA (A : Mm) (root : Int) : List Int := readT (lineA A root.toNat)
/-- What is named up to the leaf k. -/
def nsTo (A : Mm) (root : Int) : Nat → List Int
  | 0 => [root]
  | k + 1 => nsTo A root k ++ [(lsA A root).getD k 0] ++ objTo (readX (lineA A ((lsA A root).getD k 0).toNat)) 7
theorem nsTo_len (A : Mm) (root : Int) : ∀ k, (nsTo A root k).length ≤ 1 + 8 * k
  | 0 => by simp [nsTo]
  | k + 1 => by
    have h1 := nsTo_len A root k
    have h2 := objTo_len (readX (lineA A ((lsA A root).getD k 0).toNat)) 7
    rw [nsTo, List.length_append, List.length_append, List.length_singleton]
    omega
theorem nsTo_prefix (A : Mm) (root : Int) (k m : Nat) : ∃ r, nsTo A root (k + m) = nsTo A root k ++ r := by
  induction m with
  | zero => exact ⟨[], by simp⟩
  | succ m ih =>
    obtain ⟨r, hr⟩ := ih
    refine ⟨r ++ ([(lsA A root).getD (k + m) 0] ++ objTo (readX (lineA A ((lsA A root).getD (k + m) 0).toNat)) 7), ?_⟩
    rw [← Nat.add_assoc, nsTo, hr]
    simp [List.append_assoc]
theorem nsTo_seven (A : Mm) (root : Int) (k : Nat) (h : k ≤ 7) : ∃ r, nsTo A root 7 = nsTo A root k ++ r := by
  have := nsTo_prefix A root k (7 - k)
  rwa [show k + (7 - k) = 7 by omega] at this
def leafA (A : Mm) (root : Int) (k : Nat) : List Int := lineA A ((lsA A root).getD k 0).toNat
/-- What may be loaded. -/
def loadB (A : Mm) (fr root : Int) : Bool := (okN A.n fr [root] && isT (lineA A root.toNat)) && (((List.range 7).all fun k => isX (leafA A root k)) && okN A.n fr (nsTo A root 7))
theorem loadB_iff (A : Mm) (fr root : Int) : loadB A fr root = true ↔ (okN A.n fr [root] = true ∧ isT (lineA A root.toNat) = true) ∧ (∀ k, k < 7 → isX (leafA A root k) = true) ∧ okN A.n fr (nsTo A root 7) = true := by
  unfold loadB
  rw [Bool.and_eq_true, Bool.and_eq_true, Bool.and_eq_true, List.all_eq_true]
  simp
/-- The table that is loaded: its first j entries. -/
def tabF (A : Mm) (root : Int) : Nat → En := fun i => enAt (readX (leafA A root (i / 7))) (i % 7)
def tabA (A : Mm) (root : Int) : List Int := rowE 49 (tabF A root)
theorem tabA_len (A : Mm) (root : Int) : (tabA A root).length = 147 := rowE_len 49 _
def ldT (A : Mm) (fr root : Int) : List Int := if A.on = true ∧ loadB A fr root = true then tabA A root else zrow 49
def ldL (A : Mm) (fr root : Int) : List Int := if A.on = true ∧ loadB A fr root = true then lsA A root else zs7
def ldE (A : Mm) (fr root : Int) : Int := if A.on = true then (if loadB A fr root = true then 0 else 21) else 4
theorem ldT_len (A : Mm) (fr root : Int) : (ldT A fr root).length = 147 := by unfold ldT; split; exact tabA_len _ _; exact zrow_len 49
theorem ldL_len (A : Mm) (fr root : Int) : (ldL A fr root).length = 7 := by unfold ldL; split; exact tab7_len _; rfl
theorem lsA_len (A : Mm) (root : Int) : (lsA A root).length = 7 := tab7_len _
theorem lsA_bd (A : Mm) (root : Int) (h : isT (lineA A root.toNat) = true) (k : Nat) (hk : k < 7) : 0 ≤ (lsA A root).getD k 0 ∧ (lsA A root).getD k 0 < 1024 := by
  have := ((isT_iff _).1 h).1 k hk
  unfold lsA readT
  rw [tab7_get _ k hk]
  omega

end Go.Proofs.Ytnjicfnigfkppab
