
/-
  An image with the power on: a record is appended, it comes back with all records done again, each object is told. No program.
-/
import Derived.Test.YtiafhcgaikapcaaGreatIRedo
import Derived.Test.YtiafhcgaikapcaaGreatPkScan
import Derived.Test.YtiafhcgaikapcaaGreatPkTel
import Derived.Test.YtiafhcgaikapcaaGreatIAgain
namespace Go.Proofs.YtiafhcgaikapcaaGreat
set_option linter.unusedVariables false
set_option maxRecDepth 10000

/-! ### how many frames are left -/
theorem left_put1 (F : Fr) (i : Nat) (v : Int) : F.left ≤ (F.put i v).left + 1 := by
  unfold Fr.left Fr.leftTo
  show (List.range F.hi).countP F.fr ≤ (List.range F.hi).countP (F.put i v).fr + 1
  have hne : ∀ j, j ≠ i → F.fr j = (F.put i v).fr j := fun j hj => by
    unfold Fr.fr
    show (decide (F.lo ≤ j) && F.s j == 0) = (decide (F.lo ≤ j) && upd F.s i v j == 0)
    rw [upd_other _ _ _ _ hj]
  cases h1 : F.fr i with
  | false =>
    refine Nat.le_succ_of_le (List.countP_mono_left fun j _ hj => ?_)
    by_cases e : j = i
    · subst e; rw [h1] at hj; cases hj
    · rw [← hne j e]; exact hj
  | true =>
    cases h2 : (F.put i v).fr i with
    | false =>
      have := count_one h1 h2 hne F.hi
      rw [this]
      split <;> omega
    | true =>
      refine Nat.le_succ_of_le (List.countP_mono_left fun j _ hj => ?_)
      by_cases e : j = i
      · subst e; exact h2
      · rw [← hne j e]; exact hj
theorem left_turn (F : Fr) (z was is : Int) : F.left ≤ (F.turnA z was is).left + 1 := by
  unfold Fr.turnA
  split
  · exact left_put1 F _ _
  · omega
theorem left_takeL (l : List Int) : ∀ F : Fr, F.left ≤ (F.takeL l).left + l.length := by
  induction l with
  | nil => intro F; exact Nat.le_refl _
  | cons z r ih =>
    intro F
    have h1 := left_turn F z 0 1
    have h2 := ih (F.turnA z 0 1)
    show F.left ≤ ((F.turnA z 0 1).takeL r).left + (r.length + 1)
    omega
theorem left_newTo (lo hi : Nat) : ∀ k, k ≤ (Fr.new lo hi).leftTo k + lo
  | 0 => Nat.zero_le _
  | k + 1 => by
    have ih := left_newTo lo hi k
    rw [leftTo_next]
    by_cases h : lo ≤ k
    · rw [if_pos (fr_iff.2 ⟨h, rfl⟩)]; omega
    · split <;> omega
theorem left_ofS (lo hi : Nat) (t : Nat → En) (d : Nat → Int) : hi ≤ (ofS (Fr.new lo hi) t d).F.left + lo + 57 := by
  have h1 : hi ≤ (Fr.new lo hi).left + lo := left_newTo lo hi hi
  have h2 := left_takeL (claimL t d) (Fr.new lo hi)
  have h3 : (claimL t d).length ≤ 57 := by
    unfold claimL
    rw [List.length_append]
    have a : (dirTo d 8).length = 8 := by simp [dirTo]
    have b := linesTo_len t 49
    show (dirTo d 8).length + (linesTo t 49).length ≤ 57
    omega
  show hi ≤ ((Fr.new lo hi).takeL (claimL t d)).left + lo + 57
  omega

/-! ### a record is appended -/
section
variable {n c : Nat} {tb : Nat → En} {d : Nat → Int} {C : Nat → Nat → Int} {f : Nat → Option Rc} {A : Mm} {D : Nat → Nat → Int}
def freeI (f : Nat → Option Rc) (k : Nat) (seq : Int) (j : Nat) : Bool := match f (2 + 4 * k + j) with
  | none => true
  | some r => decide (r.q ≤ seq)
theorem Im.free (h : Im n c tb d C f A) {k j : Nat} (hk : k < c) (hj : j < 4) (seq : Int) : A.freeB k seq j = freeI f k seq j := by
  have hb : 2 + 4 * k + j < fromN c := by unfold fromN; omega
  unfold Mm.freeB freeI Mm.rowN
  cases hf : f (2 + 4 * k + j) with
  | none => rw [isR_nought _ (has7 (h.no _ (by omega) hb hf))]; rfl
  | some r =>
    obtain ⟨h1, h2⟩ := h.is _ r (by omega) hb hf
    rw [su_has (lineR_len r) h2, isR_line r h1, readRV_line r h1]; rfl
theorem Im.app (h : Im n c tb d C f A) (hs : Su n A D) {k j : Nat} (hk : k < c) (hj : j < 4) (seq : Int) {r : Rc} (hm : mayR r = true) (hno : f (2 + 4 * k + j) = none) (hbusy : ∀ i, i < j → freeI f k seq i = false) :
    A.appE (k : Int) seq r = 0 ∧ Su n (A.appZ (k : Int) seq r) (upd D (2 + 4 * k + j) (listF (lineR r))) ∧ Im n c tb d C (upd f (2 + 4 * k + j) (some r)) (A.appZ (k : Int) seq r) := by
  have hc := h.hc
  have hn := h.hn
  have hb : 2 + 4 * k + j < fromN c := by unfold fromN; omega
  have hfN : A.freeN k seq 4 = some j := by
    unfold Mm.freeN
    rw [List.find?_range_eq_some]
    refine ⟨?_, by simpa using hj, fun i hi => ?_⟩
    · rw [h.free hk hj]; unfold freeI; rw [hno]
    · rw [h.free hk (by omega), hbusy i hi]; rfl
  have h8 : is8 (k : Int) := ⟨by omega, by omega⟩
  have he : A.freeE (k : Int) seq = 0 := by unfold Mm.freeE; rw [if_pos h8, if_pos hs.calm.1, Int.toNat_natCast, hfN]; rfl
  have hv : A.freeV (k : Int) seq = ((2 + 4 * k + j : Nat) : Int) := by unfold Mm.freeV; rw [if_pos ⟨h8, hs.calm.1⟩, Int.toNat_natCast, hfN]; rfl
  have e1 : A.appE (k : Int) seq r = A.wrE (k : Int) ((2 + 4 * k + j : Nat) : Int) (lineR r) := by simp only [Mm.appE, he, hm, if_true, hv, lineRV_may r hm]
  have e2 : A.appZ (k : Int) seq r = A.wrZ (k : Int) ((2 + 4 * k + j : Nat) : Int) (lineR r) := by simp only [Mm.appZ, he, hm, if_true, hv, lineRV_may r hm]
  have hn64 : 64 ≤ A.n := by rw [hs.n]; exact hn.1
  obtain ⟨w1, w3⟩ := wroteR A (fun i => (hs.su i).1) hn64 (k : Int) h8 ((2 + 4 * k + j : Nat) : Int) (2 + 4 * k + j) rfl (by omega) (lineR r)
  obtain ⟨g1, g2⟩ := wrote_freeR A hs.calm.1 hs.calm.2 hn64 (k : Int) h8 ((2 + 4 * k + j : Nat) : Int) (2 + 4 * k + j) rfl (by omega) (lineR r)
  have hnn := wrZ_n A (k : Int) ((2 + 4 * k + j : Nat) : Int) (lineR r)
  rw [e1, e2]
  have hy2 : 2 ≤ 2 + 4 * k + j := by omega
  generalize 2 + 4 * k + j = y at *
  generalize A.wrE (k : Int) (y : Int) (lineR r) = E at *
  generalize A.wrZ (k : Int) (y : Int) (lineR r) = B at *
  have hy : LSu (B.l y) (listF (lineR r)) := by
    rcases w1.w with ⟨m, _, _, _, h4⟩ | ⟨h1, h2⟩
    · exact absurd g1 h4
    · exact ⟨h2, fun q hq => by rw [h1, run_stW _ _ 8 q (Nat.le_refl _), if_pos hq]; rfl⟩
  have ho : ∀ i, i ≠ y → LSu (B.l i) (D i) := fun i hi => by
    obtain ⟨h1, h2⟩ := w1.o i hi
    exact ⟨h2, fun q hq => by rw [h1]; exact (hs.su i).2 q hq⟩
  have hx : ∀ i, i ≠ y → ∀ c', LSu (A.l i) c' → LSu (B.l i) c' := fun i hi c' hA => by
    obtain ⟨h1, h2⟩ := w1.o i hi
    exact ⟨h2, fun q hq => by rw [h1]; exact hA.2 q hq⟩
  have hz : ∀ i, i ≠ y → ((A.l i).t = [] ∧ (A.l i).s 7 = 0) → ((B.l i).t = [] ∧ (B.l i).s 7 = 0) := fun i hi hA => by
    obtain ⟨h1, h2⟩ := w1.o i hi
    exact ⟨h2, by rw [h1]; exact hA.2⟩
  refine ⟨g1, ⟨⟨w3 g1, g2⟩, hnn.trans hs.n, fun i => ?_⟩, ⟨hnn.trans hs.n, hn, hc, h.hf, hx 0 (by omega) _ h.s0, hz 1 (by omega) h.s1, fun i r' a b e => ?_, fun i a b e => ?_, ⟨fun k' hk' => hx _ ?_ _ (h.img.lf k' hk'), hx _ ?_ _ h.img.rt, h.img.may, h.img.db, h.img.te, h.img.dd, h.img.dt, h.img.tt⟩, fun i hi hki => hx _ ?_ _ (h.ob i hi hki), h.tz, h.dz⟩⟩
  · by_cases e : i = y
    · subst e; rw [upd_same]; exact hy
    · rw [upd_other _ _ _ _ e]; exact ho i e
  · by_cases q : i = y
    · subst q; rw [upd_same] at e; cases e; exact ⟨hm, hy⟩
    · rw [upd_other _ _ _ _ q] at e
      exact ⟨(h.is i r' a b e).1, hx i q _ (h.is i r' a b e).2⟩
  · by_cases q : i = y
    · subst q; rw [upd_same] at e; cases e
    · rw [upd_other _ _ _ _ q] at e
      exact hz i q (h.no i a b e)
  · have := h.img.db k' (by omega); omega
  · have := h.img.db 7 (by omega); omega
  · have := h.img.te i hi hki; omega

/-! ### it comes back -/
theorem Im.hasC (h : Im n c tb d C f A) (hc : Calm A) {i : Nat} (hi : i < 49) (hk : (tb i).k ≠ 0) (j : Nat) (hj : j < 8) : A.hasZ (tb i).l j = C i j := by
  have hz : A.isZ (tb i).l := ⟨by have := h.img.te i hi hk; omega, by have := h.img.te i hi hk; have := h.an; omega⟩
  rw [has_of hc hz]
  exact (h.ob i hi hk).hs j hj
theorem Im.begun (h : Im n c tb d C f A) (hc : Calm A) (m : Nat) (hm : m + fromN c + 57 ≤ n) : Ic n c tb d C m (ofS (Fr.new (fromN c) n) tb d) A :=
  ⟨h.start, hc, h.an, fun i hi hk j hj => h.hasC hc hi hk j hj, by have := left_ofS (fromN c) n tb d; omega⟩
/-- An image comes back, with all that was journalled. -/
theorem Im.boot (h : Im n c tb d C f A) (hc : Calm A) (hm : A.rs.length + fromN c + 57 ≤ n) :
    bootE A = 0 ∧ A.findAt = 0 ∧ Ic n c tb d (redC tb 0 A.rs C A.rs.length) 0 (bootS A) (bootM A) ∧ Im n c tb d C f (bootM A) ∧ A.rs = sortR (recI f (4 * c)) ∧ A.sq = 0 := by
  obtain ⟨e1, e2, e3, e4⟩ := h.cs hc.1
  obtain ⟨f1, f2, f3⟩ := h.found hc.1
  obtain ⟨l1, l2, l3⟩ := h.load hc.1
  obtain ⟨r1, r2⟩ := h.read hc.1
  have hI := h.begun hc A.rs.length hm
  have key := (Ic.redo (q := 0) (A.rs_may) hI) A.rs.length (Nat.le_refl _)
  have e0 : rd2 A A.rs.length = redP tb 0 A.rs (ofS (Fr.new (fromN c) n) tb d) A A.rs.length := by unfold rd2; rw [r2, l2, e3]
  have hb : bootM A = (rd2 A A.rs.length).2.1 := (if_pos f1).trans (if_pos r1)
  refine ⟨(if_pos f1).trans ((if_pos r1).trans (by rw [e0]; exact key.1)), f3, ?_, h.booted, h.scanned hc.1, e3⟩
  unfold bootS
  rw [hb, e0]
  have := key.2
  rwa [Nat.sub_self] at this
/-- With no records nothing turns. -/
theorem boot_none {A : Mm} (h : A.rs = []) : bootM A = A := by
  unfold bootM
  split
  · split
    · unfold rd2; rw [h]; rfl
    · rfl
  · rfl
/-- What Get tells. -/
theorem obV_ext {k v : Int} {f g : Nat → Int} (h : ∀ j, j < 8 → f j = g j) : obV k v f = obV k v g := by
  unfold obV
  congr 1
  unfold lnV
  exact tab_ext fun j hj => by rw [h j hj]
theorem Ic.get {m : Nat} {S : Sto} (h : Ic n c tb d C m S A) (i : Nat) (hi : i < 49) :
    ((tb i).k ≠ 0 → S.getE A (i : Int) = 0 ∧ S.getV A (i : Int) = obV (tb i).k (tb i).v (C i)) ∧ ((tb i).k = 0 → S.getE A (i : Int) = 30 ∧ S.getV A (i : Int) = obV 0 0 fun _ => 0) := by
  have hw := h.w i hi
  constructor
  · intro hk
    have hwk : (S.w i).k ≠ 0 := by rw [hw.1]; exact hk
    have hf : S.findE (i : Int) = 0 := by unfold Sto.findE; rw [if_pos ⟨by omega, by omega⟩, Int.toNat_natCast, if_neg hwk]
    have hz : A.isZ (S.line (i : Int)) := by
      have := (h.inv.tw i hi hwk).1
      unfold Sto.line
      rw [Int.toNat_natCast]
      exact isZ_isF (by rw [h.hi, h.an]; exact Nat.le_refl _) this
    have he : S.getE A (i : Int) = 0 := by unfold Sto.getE; rw [if_pos hf]; exact calm_loadE h.calm hz
    refine ⟨he, ?_⟩
    unfold Sto.getV
    rw [if_pos he, Int.toNat_natCast, hw.1, hw.2]
    refine obV_ext fun j hj => ?_
    unfold Sto.line
    rw [Int.toNat_natCast]
    exact h.has i hi hk j hj
  · intro hk
    have hf : S.findE (i : Int) = 30 := by unfold Sto.findE; rw [if_pos ⟨by omega, by omega⟩, Int.toNat_natCast, hw.1, if_pos hk]
    have he : S.getE A (i : Int) = 30 := by unfold Sto.getE; rw [hf]; rfl
    refine ⟨he, ?_⟩
    unfold Sto.getV
    rw [he]; rfl
end

end Go.Proofs.YtiafhcgaikapcaaGreat
