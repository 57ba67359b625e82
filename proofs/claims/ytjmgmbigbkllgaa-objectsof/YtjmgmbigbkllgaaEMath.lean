
/-
  Entries in plain mathematics: which may be, their words, what a word is read as, whether a capability names one, what is left when it ends. No program.
-/
import Derived.Test.YtjmgmbigbkllgaaKMath
namespace Go.Proofs.Ytjmgmbigbkllgaa
set_option linter.unusedVariables false

/-- An entry: kind, version, line. -/
structure En where
  k : Int
  v : Int
  l : Int
theorem En.ext' {c d : En} (h1 : c.k = d.k) (h2 : c.v = d.v) (h3 : c.l = d.l) : c = d := by
  cases c; cases d; simp_all
instance : DecidableEq En := fun a b => decidable_of_iff (a.k = b.k ∧ a.v = b.v ∧ a.l = b.l) (by
  cases a; cases b; simp)
def ze : En := ⟨0, 0, 0⟩
/-- Its cells. -/
def ev (c : En) : Array Value := #[.int .i64 c.k, .int .i64 c.v, .int .i64 c.l]
theorem ev_size (c : En) : (ev c).size = 3 := rfl
theorem ev_one (c : En) : (ev c).all (·.oneCell') = true := by simp [ev, Value.oneCell']

def mayN (c : En) : Bool := decide (0 ≤ c.k ∧ c.k ≤ 4 ∧ 0 ≤ c.v ∧ c.v ≤ 16777215 ∧ 0 ≤ c.l ∧ c.l < 1024 ∧ (c.k = 0 → c.l = 0))
theorem mayN_iff (c : En) : mayN c = true ↔ 0 ≤ c.k ∧ c.k ≤ 4 ∧ 0 ≤ c.v ∧ c.v ≤ 16777215 ∧ 0 ≤ c.l ∧ c.l < 1024 ∧ (c.k = 0 → c.l = 0) := by
  unfold mayN; rw [decide_eq_true_iff]
def wordN (c : En) : Int := c.k + c.v * 16 + c.l * 268435456
def wnV (c : En) : Int := if mayN c then wordN c else 0
def wnE (c : En) : Int := if mayN c then 0 else 1
def ofN (w : Int) : En := ⟨fieldI w 0 4, fieldI w 4 24, fieldI w 28 16⟩
def isN (w : Int) : Bool := mayN (ofN w) && decide (wordN (ofN w) = w)
def onV (w : Int) : En := if isN w then ofN w else ze

theorem n0 (w : Int) (h : 0 ≤ w) : fieldI w 0 4 = w % 16 := f0 w h
theorem n1 (w : Int) (h : 0 ≤ w) : fieldI w 4 24 = w / 16 % 16777216 := by unfold fieldI fieldN; simp; omega
theorem n2 (w : Int) (h : 0 ≤ w) : fieldI w 28 16 = w / 268435456 % 65536 := by unfold fieldI fieldN; simp; omega
theorem wordN_bd (c : En) (hm : mayN c = true) : 0 ≤ wordN c ∧ wordN c < 17592186044416 := by
  have h := (mayN_iff c).1 hm
  unfold wordN; omega
/-- An entry that may be is read from its word as it was. -/
theorem ofN_word (c : En) (hm : mayN c = true) : ofN (wordN c) = c := by
  have h := (mayN_iff c).1 hm
  have hb := wordN_bd c hm
  have e : wordN c = c.k + c.v * 16 + c.l * 268435456 := rfl
  unfold ofN
  rw [n0 _ (by omega), n1 _ (by omega), n2 _ (by omega)]
  apply En.ext'
  · show wordN c % 16 = c.k; omega
  · show wordN c / 16 % 16777216 = c.v; omega
  · show wordN c / 268435456 % 65536 = c.l; omega
theorem isN_word (c : En) (hm : mayN c = true) : isN (wordN c) = true := by unfold isN; rw [ofN_word c hm, hm]; simp
theorem onV_word (c : En) (hm : mayN c = true) : onV (wordN c) = c := by unfold onV; rw [if_pos (isN_word c hm), ofN_word c hm]
theorem wnV_may (c : En) (hm : mayN c = true) : wnV c = wordN c := by simp [wnV, hm]
theorem wnE_may (c : En) (hm : mayN c = true) : wnE c = 0 := by simp [wnE, hm]
theorem wnV_not (c : En) (hm : mayN c = false) : wnV c = 0 := by simp [wnV, hm]
theorem wnE_not (c : En) (hm : mayN c = false) : wnE c = 1 := by simp [wnE, hm]
theorem onV_is (w : Int) (h : isN w = true) : onV w = ofN w := by simp [onV, h]
theorem onV_not (w : Int) (h : isN w = false) : onV w = ze := by simp [onV, h]
theorem isN_may (w : Int) (h : isN w = true) : mayN (ofN w) = true ∧ wordN (ofN w) = w := by
  unfold isN at h; simpa using h
theorem wordN_inj (c d : En) (hm : mayN c = true) (hn : mayN d = true) (h : wordN c = wordN d) : c = d := by
  rw [← ofN_word c hm, h, ofN_word d hn]
theorem ofN_bd (w : Int) (h0 : 0 ≤ w) : 0 ≤ (ofN w).k ∧ (ofN w).k ≤ 15 ∧ 0 ≤ (ofN w).v ∧ (ofN w).v ≤ 16777215 ∧ 0 ≤ (ofN w).l ∧ (ofN w).l ≤ 65535 := by
  unfold ofN
  rw [n0 _ (by omega), n1 _ (by omega), n2 _ (by omega)]
  show 0 ≤ w % 16 ∧ w % 16 ≤ 15 ∧ 0 ≤ w / 16 % 16777216 ∧ w / 16 % 16777216 ≤ 16777215 ∧ 0 ≤ w / 268435456 % 65536 ∧ w / 268435456 % 65536 ≤ 65535
  omega

/-! ### the calls -/
/-- What Names says. -/
def namE (x : En) (i c : Int) : Int :=
  if isC c = true ∧ (ofC c).k ≠ 5 ∧ (ofC c).k ≠ 6 then
    (if (ofC c).i = i then (if (ofC c).v = x.v then (if x.k = 0 then 30 else if (ofC c).k = x.k then 0 else 31) else 33) else 30)
  else 31
/-- The version behind an end. -/
def nextI (v : Int) : Int := if v = 16777215 then 16777215 else v + 1
def endV (x : En) : En := if x.k = 0 then ze else ⟨0, nextI x.v, 0⟩
def endE (x : En) : Int := if x.k = 0 then 30 else 0
def opB (x : En) : Bool := decide (x.k = 0 ∧ x.v < 16777215)

end Go.Proofs.Ytjmgmbigbkllgaa
