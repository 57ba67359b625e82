
/-
  Images in plain mathematics: what Format makes of a memory, what Boot reads of one, what is done again. No program.
-/
import Derived.Test.YtiafhcgaikapcaaGreatMSure
import Derived.Test.YtiafhcgaikapcaaGreatPkDir
import Derived.Test.YtiafhcgaikapcaaGreatPkSto
import Derived.Test.YtiafhcgaikapcaaGreatPkShow
import Derived.Test.YtiafhcgaikapcaaGreatPkScan
namespace Go.Proofs.YtiafhcgaikapcaaGreat
set_option linter.unusedVariables false
set_option maxRecDepth 10000

/-- An object: its kind, its version, its words. -/
structure Ob where
  k : Int
  v : Int
  l : Nat → Int
def ob0 : Ob := ⟨0, 0, fun _ => 0⟩
def fromN (c : Nat) : Nat := 2 + 4 * c
def obM (x : Ob) : Bool := decide ((0 ≤ x.k ∧ x.k ≤ 4) ∧ 0 ≤ x.v ∧ x.v ≤ 16777215) && (decide (x.k ≠ 0) || eqL x.l fun _ => 0)
def fmtB (c : Int) (l : List Ob) : Bool := decide (1 ≤ c ∧ c ≤ 8) && (decide (l.length ≤ 49) && l.all obM)
def cntO (l : List Ob) : Nat := l.countP fun x => decide (x.k ≠ 0)

/-! ### one thing behind the other, up to the first error -/
def andP (p : Mm × Int) (f : Mm → Mm × Int) : Mm × Int := if p.2 = 0 then f p.1 else p
theorem andP_ok {p : Mm × Int} {f : Mm → Mm × Int} (h : p.2 = 0) : andP p f = f p.1 := if_pos h
theorem andP_no {p : Mm × Int} {f : Mm → Mm × Int} (h : p.2 ≠ 0) : andP p f = p := if_neg h
theorem andP_n {p : Mm × Int} {f : Mm → Mm × Int} {n : Nat} (h : p.1.n = n) (hf : ∀ A : Mm, A.n = n → (f A).1.n = n) : (andP p f).1.n = n := by
  unfold andP; split
  · exact hf _ h
  · exact h
theorem andP_of {p : Mm × Int} {f : Mm → Mm × Int} {B C : Nat} (h : p.1.ok B) (hf : ∀ A : Mm, A.ok B → (f A).1.ok (B + C)) : (andP p f).1.ok (B + C) := by
  unfold andP; split
  · exact hf _ h
  · exact ok_mono h (by omega)
def stP (z q v : Int) (A : Mm) : Mm × Int := (A.storeZ z q v, A.storeE z q)
def flP (z : Int) (A : Mm) : Mm × Int := (A.flushZ 0 z, A.flushE 0 z)
def feP (A : Mm) : Mm × Int := (A.fenceZ 0, A.fenceE 0)
theorem flP_ok {A : Mm} {B : Nat} (h : A.ok B) (z : Int) : (flP z A).1.ok (B + 1) := ok_flushZ h 0 z
theorem feP_ok {A : Mm} {B : Nat} (h : A.ok B) : (feP A).1.ok (B + 1) := ok_fenceZ h 0
theorem flP_n (A : Mm) (z : Int) : (flP z A).1.n = A.n := flushZ_n _ _ _
theorem feP_n (A : Mm) : (feP A).1.n = A.n := fenceZ_n _ _
theorem stP_n (z q v : Int) (A : Mm) : (stP z q v A).1.n = A.n := storeZ_n _ _ _ _

/-! ### Format -/
def wipeP (A : Mm) : Nat → Mm × Int
  | 0 => (A, 0)
  | j + 1 => andP (wipeP A j) fun B => andP (stP (j : Int) 7 0 B) (flP (j : Int))
def putP (z : Int) (f : Nat → Int) (A : Mm) : Mm × Int := andP (layP A z f 8) (flP z)
theorem putP_ok {A : Mm} {B : Nat} (h : A.ok B) (z : Int) (f : Nat → Int) (hf : ∀ j, InU (f j)) : (putP z f A).1.ok (B + 9) :=
  andP_of (B := B + 8) (C := 1) (layP_ok h z f hf 8) fun _ h => flP_ok h z
theorem putP_n (A : Mm) (z : Int) (f : Nat → Int) : (putP z f A).1.n = A.n := andP_n (layP_n A z f 8) fun B h => (flP_n B z).trans h
theorem wipeP_n (A : Mm) : ∀ j, (wipeP A j).1.n = A.n
  | 0 => rfl
  | j + 1 => andP_n (wipeP_n A j) fun B h => andP_n ((stP_n _ _ _ B).trans h) fun C k => (flP_n C _).trans k
theorem wipeP_ok {A : Mm} {B : Nat} (h : A.ok B) : ∀ j, (wipeP A j).1.ok (B + 2 * j)
  | 0 => h
  | j + 1 => andP_of (B := B + 2 * j) (C := 2) (wipeP_ok h j) fun D hD => andP_of (B := B + 2 * j + 1) (C := 1) (ok_storeZ hD _ _ _ ⟨by decide, by decide⟩) fun E hE => flP_ok hE _
/-- The objects, up to the j-th. -/
def obsP (A : Mm) (fr : Nat) (l : List Ob) : Nat → Mm × Int
  | 0 => (A, 0)
  | j + 1 => andP (obsP A fr l j) fun B => if (l.getD j ob0).k = 0 then (B, 0) else putP ((fr + cntO (l.take j) : Nat) : Int) (l.getD j ob0).l B
theorem obsP_n (A : Mm) (fr : Nat) (l : List Ob) : ∀ j, (obsP A fr l j).1.n = A.n
  | 0 => rfl
  | j + 1 => andP_n (obsP_n A fr l j) fun B h => by
    split
    · exact h
    · exact (putP_n B _ _).trans h
theorem obsP_ok {A : Mm} {B : Nat} (h : A.ok B) (fr : Nat) (l : List Ob) (hl : ∀ j i, InU ((l.getD j ob0).l i)) : ∀ j, (obsP A fr l j).1.ok (B + 9 * j)
  | 0 => h
  | j + 1 => andP_of (B := B + 9 * j) (C := 9) (obsP_ok h fr l hl j) fun D hD => by
    split
    · exact ok_mono hD (by omega)
    · exact putP_ok hD _ _ (hl j)
/-- Their entries. -/
def entO (fr : Nat) (l : List Ob) (i : Nat) : En := ⟨(l.getD i ob0).k, (l.getD i ob0).v, if (l.getD i ob0).k = 0 then 0 else ((fr + cntO (l.take i) : Nat) : Int)⟩
def tabO (fr : Nat) (l : List Ob) (i : Nat) : En := if i < l.length then entO fr l i else ze
/-- The leaves, up to the k-th, and the root. -/
def lfsP (A : Mm) (at' : Nat) (t : Nat → En) : Nat → Mm × Int
  | 0 => (A, 0)
  | k + 1 => andP (lfsP A at' t k) (putP ((at' + k : Nat) : Int) (listF (leafKV (rowE 49 t) (k : Int))))
theorem lfsP_n (A : Mm) (at' : Nat) (t : Nat → En) : ∀ j, (lfsP A at' t j).1.n = A.n
  | 0 => rfl
  | j + 1 => andP_n (lfsP_n A at' t j) fun B h => (putP_n B _ _).trans h
def dirO (at' : Nat) (k : Nat) : Int := if k < 8 then ((at' + k : Nat) : Int) else 0
def rootO (at' : Nat) : Nat → Int := listF (rootV (tab7 (dirO at')))
def wrtP (A : Mm) (fr : Nat) (l : List Ob) : Mm × Int :=
  andP (andP (andP (obsP A fr l l.length) fun B => lfsP B (fr + cntO l) (tabO fr l) 7) (putP ((fr + cntO l + 7 : Nat) : Int) (rootO (fr + cntO l)))) feP
def supO (c : Int) (at' : Nat) : List Int := [1, ((at' + 7 : Nat) : Int), 0, c]
def fmtP (A : Mm) (c : Int) (l : List Ob) : Mm × Int :=
  if fmtB c l = true then
    if A.n < fromN c.toNat + cntO l + 8 then (A, 10)
    else andP (andP (andP (wipeP A (fromN c.toNat)) feP) fun B => wrtP B (fromN c.toNat) l) fun B => (B.writeZ 0 0 (supO c (fromN c.toNat + cntO l)), B.writeE 0 0 (supO c (fromN c.toNat + cntO l)))
  else (A, 1)
theorem wrtP_n (A : Mm) (fr : Nat) (l : List Ob) : (wrtP A fr l).1.n = A.n :=
  andP_n (andP_n (andP_n (obsP_n A fr l _) fun B h => (lfsP_n B _ _ 7).trans h) fun B h => (putP_n B _ _).trans h) fun B h => (feP_n B).trans h
theorem fmtP_n (A : Mm) (c : Int) (l : List Ob) : (fmtP A c l).1.n = A.n := by
  unfold fmtP
  split
  · split
    · rfl
    · exact andP_n (andP_n (andP_n (wipeP_n A _) fun B h => (feP_n B).trans h) fun B h => (wrtP_n B _ _).trans h) fun B h => (writeZ_n B _ _ _).trans h
  · rfl
theorem lfsP_ok {A : Mm} {B : Nat} (h : A.ok B) (at' : Nat) (t : Nat → En) : ∀ j, (lfsP A at' t j).1.ok (B + 9 * j)
  | 0 => h
  | j + 1 => andP_of (B := B + 9 * j) (C := 9) (lfsP_ok h at' t j) fun D hD => putP_ok hD _ _ (listF_inU (zleafKV_wf _ _))
theorem wrtP_ok {A : Mm} {B : Nat} (h : A.ok B) (fr : Nat) (l : List Ob) (hl : ∀ j i, InU ((l.getD j ob0).l i)) : (wrtP A fr l).1.ok (B + 9 * l.length + 73) :=
  andP_of (B := B + 9 * l.length + 72) (C := 1) (andP_of (B := B + 9 * l.length + 63) (C := 9) (andP_of (B := B + 9 * l.length) (C := 63) (obsP_ok h fr l hl _) fun D hD => lfsP_ok hD _ _ 7) fun D hD => putP_ok hD _ _ (listF_inU (rootV_wf _))) fun D hD => feP_ok hD
theorem fmtP_ok {A : Mm} {B : Nat} (h : A.ok B) (c : Int) (l : List Ob) (hl : ∀ j i, InU ((l.getD j ob0).l i)) : (fmtP A c l).1.ok (B + 594) := by
  unfold fmtP
  split
  · rename_i hb
    unfold fmtB at hb
    rw [Bool.and_eq_true, Bool.and_eq_true, decide_eq_true_iff, decide_eq_true_iff] at hb
    have hc : fromN c.toNat ≤ 34 := by unfold fromN; omega
    have hl9 := hb.2.1
    split
    · exact ok_mono h (by omega)
    · refine andP_of (B := B + 583) (C := 11) (andP_of (B := B + 69) (C := 514) (andP_of (B := B + 68) (C := 1) (ok_mono (wipeP_ok h _) (by omega)) fun D hD => feP_ok hD) fun D hD => ok_mono (wrtP_ok hD _ l hl) (by omega)) fun D hD => ok_writeZ hD _ _ _
  · exact ok_mono h (by omega)

/-! ### Boot -/
def Mm.cs (A : Mm) : Int := A.findV.getD 3 0
def Mm.rt (A : Mm) : Int := A.findV.getD 1 0
def Mm.sq (A : Mm) : Int := A.findV.getD 2 0
def Mm.fr (A : Mm) : Nat := fromN A.cs.toNat
def Mm.tb (A : Mm) : Nat → En := enAt (ldT A (A.fr : Int) A.rt)
def Mm.di (A : Mm) : Nat → Int := fun k => if k < 7 then (ldL A (A.fr : Int) A.rt).getD k 0 else if k = 7 then A.rt else 0
/-- The error of reading what a superblock names; the store that is read. -/
def rdE (A : Mm) : Int := if A.n < A.fr then 21 else if ldE A (A.fr : Int) A.rt = 0 then (if ofB (Fr.new A.fr A.n) A.tb A.di = true then 0 else 21) else ldE A (A.fr : Int) A.rt
def rdS (A : Mm) : Sto := ofS (Fr.new A.fr A.n) A.tb A.di
/-- What is done again, up to the j-th record: the store, the memory, the error. -/
def redB (t : Nat → En) (q : Int) (r : Rc) : Bool := decide (q < r.q) && decide ((t r.d.toNat).k = 1)
def redP (t : Nat → En) (q : Int) (rs : List Rc) (S : Sto) (A : Mm) : Nat → Sto × Mm × Int
  | 0 => (S, A, 0)
  | j + 1 => if (redP t q rs S A j).2.2 = 0 then
      (if redB t q (rs.getD j zr) = true then ((redP t q rs S A j).1.setS (redP t q rs S A j).2.1 (rs.getD j zr).d (rs.getD j zr).o (rs.getD j zr).v, (redP t q rs S A j).1.setM (redP t q rs S A j).2.1 (rs.getD j zr).d (rs.getD j zr).o (rs.getD j zr).v, (redP t q rs S A j).1.setE (redP t q rs S A j).2.1 (rs.getD j zr).d (rs.getD j zr).o (rs.getD j zr).v) else redP t q rs S A j)
    else redP t q rs S A j
def grQ (q : Int) (rs : List Rc) : Nat → Int
  | 0 => q
  | j + 1 => max (grQ q rs j) (rs.getD j zr).q
def Mm.rs (A : Mm) : List Rc := A.scanV A.cs
def rd2 (A : Mm) (j : Nat) : Sto × Mm × Int := redP A.tb A.sq A.rs (rdS A) A j
def bootE (A : Mm) : Int := if A.findE = 0 then (if rdE A = 0 then (rd2 A A.rs.length).2.2 else rdE A) else A.findE
def bootM (A : Mm) : Mm := if A.findE = 0 then (if rdE A = 0 then (rd2 A A.rs.length).2.1 else A) else A
def bootS (A : Mm) : Sto := (rd2 A A.rs.length).1
def bootN (A : Mm) : Int := grQ A.sq A.rs A.rs.length + 1
theorem redP_stuck {t : Nat → En} {q : Int} {rs : List Rc} {S : Sto} {A : Mm} {j : Nat} (h : (redP t q rs S A j).2.2 ≠ 0) : ∀ m, redP t q rs S A (j + m) = redP t q rs S A j
  | 0 => rfl
  | m + 1 => by
    show (if (redP t q rs S A (j + m)).2.2 = 0 then _ else redP t q rs S A (j + m)) = _
    rw [redP_stuck h m, if_neg h]
theorem redP_yes {t : Nat → En} {q : Int} {rs : List Rc} {S : Sto} {A : Mm} {j : Nat} (h : (redP t q rs S A j).2.2 = 0) (hb : redB t q (rs.getD j zr) = true) :
    redP t q rs S A (j + 1) = ((redP t q rs S A j).1.setS (redP t q rs S A j).2.1 (rs.getD j zr).d (rs.getD j zr).o (rs.getD j zr).v, (redP t q rs S A j).1.setM (redP t q rs S A j).2.1 (rs.getD j zr).d (rs.getD j zr).o (rs.getD j zr).v, (redP t q rs S A j).1.setE (redP t q rs S A j).2.1 (rs.getD j zr).d (rs.getD j zr).o (rs.getD j zr).v) :=
  (if_pos h).trans (if_pos hb)
theorem redP_not {t : Nat → En} {q : Int} {rs : List Rc} {S : Sto} {A : Mm} {j : Nat} (hb : redB t q (rs.getD j zr) ≠ true) : redP t q rs S A (j + 1) = redP t q rs S A j := by
  by_cases he : (redP t q rs S A j).2.2 = 0
  · exact (if_pos he).trans (if_neg hb)
  · exact if_neg he
theorem redP_all {P : Sto → Mm → Nat → Prop} (h0 : ∀ j, ∀ S A, P S A j → P S A (j + 1)) {t : Nat → En} {q : Int} {rs : List Rc} (hs : ∀ j S A, j < rs.length → redB t q (rs.getD j zr) = true → P S A j → P (S.setS A (rs.getD j zr).d (rs.getD j zr).o (rs.getD j zr).v) (S.setM A (rs.getD j zr).d (rs.getD j zr).o (rs.getD j zr).v) (j + 1))
    {S : Sto} {A : Mm} (h : P S A 0) : ∀ j, j ≤ rs.length → P (redP t q rs S A j).1 (redP t q rs S A j).2.1 j
  | 0, _ => h
  | j + 1, hj => by
    have ih := redP_all h0 hs h j (by omega)
    by_cases he : (redP t q rs S A j).2.2 = 0
    · by_cases hb : redB t q (rs.getD j zr) = true
      · rw [redP_yes he hb]; exact hs j _ _ (by omega) hb ih
      · rw [redP_not hb]; exact h0 _ _ _ ih
    · rw [redP_stuck he 1]; exact h0 _ _ _ ih

end Go.Proofs.YtiafhcgaikapcaaGreat
