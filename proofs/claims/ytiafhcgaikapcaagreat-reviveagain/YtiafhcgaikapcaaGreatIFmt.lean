
/-
  What Format leaves on a memory whose power stays on, line by line: an image of the objects. No program.
-/
import Derived.Test.YtiafhcgaikapcaaGreatIMath
import Derived.Test.YtiafhcgaikapcaaGreatMImg
import Derived.Test.YtiafhcgaikapcaaGreatSLastMath
namespace Go.Proofs.YtiafhcgaikapcaaGreat
set_option linter.unusedVariables false
set_option maxRecDepth 10000

/-- The power stays on; all lines have these words, and all is flushed; or all is sure. -/
structure Fl (n : Nat) (A : Mm) (D : Nat → Nat → Int) : Prop where
  calm : Calm A
  n : A.n = n
  fl : ∀ i, LFl (A.l i) (D i)
structure Su (n : Nat) (A : Mm) (D : Nat → Nat → Int) : Prop where
  calm : Calm A
  n : A.n = n
  su : ∀ i, LSu (A.l i) (D i)
section
variable {n : Nat} {A : Mm} {D : Nat → Nat → Int}
theorem Su.fl (h : Su n A D) (hf : ∀ i, (A.l i).f 0 ≤ (A.l i).t.length) : Fl n A D := ⟨h.calm, h.n, fun i => su_fl (h.su i) (hf i)⟩
theorem Fl.wipe (h : Fl n A D) {j : Nat} (hj : j < n) : (andP (stP (j : Int) 7 0 A) (flP (j : Int))).2 = 0 ∧ Fl n (andP (stP (j : Int) 7 0 A) (flP (j : Int))).1 (upd D j (upd (D j) 7 0)) := by
  have hz : A.isZ (j : Int) := ⟨by omega, by have := h.n; omega⟩
  have e1 : (stP (j : Int) 7 0 A).2 = 0 := calm_storeE h.calm hz ⟨by decide, by decide⟩
  rw [andP_ok e1]
  have hc := calm_store h.calm (j : Int) 7 0
  have hz2 : (A.storeZ (j : Int) 7 0).isZ (j : Int) := by unfold Mm.isZ; rw [storeZ_n]; exact hz
  obtain ⟨f1, f2, f3⟩ := calm_flush hc hz2
  refine ⟨f1, f2, (flushZ_n _ _ _).trans ((storeZ_n _ _ _ _).trans h.n), fun i => ?_⟩
  show LFl (((A.storeZ (j : Int) 7 0).flushZ 0 (j : Int)).l i) _
  by_cases e : i = j
  · subst e
    rw [upd_same]
    have hd := flushZ_done f1
    rw [Int.toNat_natCast] at hd
    rw [hd]
    refine flush_fl fun q hq => ?_
    unfold Mm.storeZ
    rw [if_pos ⟨hz, ⟨by decide, by decide⟩⟩]
    unfold Mm.store
    rw [step_may (calm_may h.calm), Int.toNat_natCast, upd_same, Ln.store_has]
    show upd (A.l i).has 7 0 q = upd (D i) 7 0 q
    unfold upd
    split
    · rfl
    · exact (h.fl i).1 q hq
  · rw [upd_other _ _ _ _ e]
    rcases flushZ_l (A.storeZ (j : Int) 7 0) (j : Int) i with q | q
    · rw [q, storeZ_other _ _ _ _ _ (by simpa using e)]; exact h.fl i
    · exact absurd q.1 (by simpa using e)
theorem Fl.put (h : Fl n A D) {z : Int} (hz : 0 ≤ z ∧ z < n) (f : Nat → Int) : (putP z f A).2 = 0 ∧ Fl n (putP z f A).1 (upd D z.toNat f) := by
  have hz1 : A.isZ z := ⟨hz.1, by have := h.n; omega⟩
  obtain ⟨h1, h2, h3, h4⟩ := calm_lay h.calm hz1 f 8 (Nat.le_refl _)
  unfold putP
  rw [andP_ok h2]
  have hz2 : (layP A z f 8).1.isZ z := by unfold Mm.isZ; rw [layP_n]; exact hz1
  obtain ⟨f1, f2, f3⟩ := calm_flush h1 hz2
  refine ⟨f1, f2, (flushZ_n _ _ _).trans ((layP_n _ _ _ _).trans h.n), fun i => ?_⟩
  show LFl (((layP A z f 8).1.flushZ 0 z).l i) _
  by_cases e : i = z.toNat
  · subst e
    rw [upd_same, flushZ_done f1]
    exact flush_fl fun q hq => layP_done hz1 f 8 (Nat.le_refl _) h2 q hq
  · rw [upd_other _ _ _ _ e]
    rcases flushZ_l (layP A z f 8).1 z i with q | q
    · rw [q, layP_other _ _ _ _ e]; exact h.fl i
    · exact absurd q.1 e
theorem Fl.fence (h : Fl n A D) : (feP A).2 = 0 ∧ Su n (feP A).1 D ∧ ∀ i, ((feP A).1.l i).f 0 ≤ ((feP A).1.l i).t.length := by
  obtain ⟨f1, f2, f3⟩ := calm_fence h.calm
  have hd := fenceZ_done f1
  refine ⟨f1, ⟨f2, (feP_n A).trans h.n, fun i => ?_⟩, fun i => ?_⟩
  · show LSu ((A.fenceZ 0).l i) _
    rw [hd]; exact settle_fl (h.fl i)
  · show ((A.fenceZ 0).l i).f 0 ≤ _
    rw [hd]
    show (A.l i).f 0 - (A.l i).f 0 ≤ _
    omega
theorem Fl.ext (h : Fl n A D) {D' : Nat → Nat → Int} (e : D = D') : Fl n A D' := e ▸ h
/-- The headers' sums are taken. -/
def wipeD (D : Nat → Nat → Int) (j : Nat) : Nat → Nat → Int := fun i => if i < j then upd (D i) 7 0 else D i
theorem Fl.wipes (h : Fl n A D) : ∀ j, j ≤ n → (wipeP A j).2 = 0 ∧ Fl n (wipeP A j).1 (wipeD D j)
  | 0, _ => ⟨rfl, h.ext (by funext i; exact (if_neg (Nat.not_lt_zero i)).symm)⟩
  | j + 1, hj => by
    obtain ⟨h1, h2⟩ := h.wipes j (by omega)
    have e : wipeP A (j + 1) = andP (wipeP A j) fun B => andP (stP (j : Int) 7 0 B) (flP (j : Int)) := rfl
    rw [e, andP_ok h1]
    obtain ⟨h3, h4⟩ := h2.wipe (j := j) (by omega)
    refine ⟨h3, h4.ext ?_⟩
    funext i
    unfold wipeD
    by_cases c : i = j
    · subst c; rw [upd_same, if_neg (Nat.lt_irrefl i), if_pos (Nat.lt_succ_self i)]
    · rw [upd_other _ _ _ _ c]
      by_cases c2 : i < j
      · rw [if_pos c2, if_pos (by omega)]
      · rw [if_neg c2, if_neg (by omega)]
theorem cnt_next (l : List Ob) (j : Nat) (hj : j < l.length) : cntO (l.take (j + 1)) = cntO (l.take j) + if (l.getD j ob0).k = 0 then 0 else 1 := by
  unfold cntO
  rw [List.take_succ_eq_append_getElem hj, List.countP_append]
  have : l.getD j ob0 = l[j] := by rw [List.getD_eq_getElem?_getD, List.getElem?_eq_getElem hj]; rfl
  rw [this]
  by_cases h : (l[j]).k = 0
  · rw [if_pos h]; simp [h]
  · rw [if_neg h]; simp [h]
theorem cnt_mono (l : List Ob) {i j : Nat} (h : i ≤ j) : cntO (l.take i) ≤ cntO (l.take j) := by
  unfold cntO
  exact List.Sublist.countP_le (List.take_sublist_take_left h)
theorem cnt_all (l : List Ob) : cntO (l.take l.length) = cntO l := by rw [List.take_length]
theorem cnt_le (l : List Ob) : cntO l ≤ l.length := List.countP_le_length
theorem cnt_lt (l : List Ob) {j m : Nat} (hj : j < m) (hm : m ≤ l.length) (hk : (l.getD j ob0).k ≠ 0) : cntO (l.take j) < cntO (l.take m) := by
  have h1 := cnt_next l j (by omega)
  rw [if_neg hk] at h1
  have h2 := cnt_mono l (show j + 1 ≤ m by omega)
  omega
theorem cnt_lt_all (l : List Ob) {j : Nat} (hj : j < l.length) (hk : (l.getD j ob0).k ≠ 0) : cntO (l.take j) < cntO l := by
  have := cnt_lt l hj (Nat.le_refl _) hk
  rwa [cnt_all] at this
def obsD (D : Nat → Nat → Int) (fr : Nat) (l : List Ob) : Nat → Nat → Nat → Int
  | 0 => D
  | j + 1 => if (l.getD j ob0).k = 0 then obsD D fr l j else upd (obsD D fr l j) (fr + cntO (l.take j)) (l.getD j ob0).l
theorem Fl.obs (h : Fl n A D) (fr : Nat) (l : List Ob) (hn : fr + cntO l ≤ n) : ∀ j, j ≤ l.length → (obsP A fr l j).2 = 0 ∧ Fl n (obsP A fr l j).1 (obsD D fr l j)
  | 0, _ => ⟨rfl, h⟩
  | j + 1, hj => by
    obtain ⟨h1, h2⟩ := h.obs fr l hn j (by omega)
    have e : obsP A fr l (j + 1) = andP (obsP A fr l j) fun B => if (l.getD j ob0).k = 0 then (B, 0) else putP ((fr + cntO (l.take j) : Nat) : Int) (l.getD j ob0).l B := rfl
    rw [e, andP_ok h1]
    by_cases hk : (l.getD j ob0).k = 0
    · rw [if_pos hk]
      unfold obsD
      rw [if_pos hk]
      exact ⟨rfl, h2⟩
    · rw [if_neg hk]
      unfold obsD
      rw [if_neg hk]
      have hc := cnt_lt_all l (show j < l.length by omega) hk
      have := h2.put (z := ((fr + cntO (l.take j) : Nat) : Int)) ⟨by omega, by omega⟩ (l.getD j ob0).l
      rwa [Int.toNat_natCast] at this
theorem obsD_other (D : Nat → Nat → Int) (fr : Nat) (l : List Ob) (i : Nat) : ∀ j, j ≤ l.length → (i < fr ∨ fr + cntO (l.take j) ≤ i) → obsD D fr l j i = D i
  | 0, _, _ => rfl
  | j + 1, hj, hi => by
    have hn := cnt_next l j (by omega)
    unfold obsD
    by_cases hk : (l.getD j ob0).k = 0
    · rw [if_pos hk] at hn ⊢
      exact obsD_other D fr l i j (by omega) (by omega)
    · rw [if_neg hk] at hn ⊢
      rw [upd_other _ _ _ _ (by omega)]
      exact obsD_other D fr l i j (by omega) (by omega)
theorem obsD_at (D : Nat → Nat → Int) (fr : Nat) (l : List Ob) (m : Nat) (hk : (l.getD m ob0).k ≠ 0) : ∀ j, m < j → j ≤ l.length → obsD D fr l j (fr + cntO (l.take m)) = (l.getD m ob0).l
  | 0, h, _ => by omega
  | j + 1, hm, hj => by
    unfold obsD
    by_cases e : m = j
    · subst e; rw [if_neg hk, upd_same]
    · have hlt := cnt_lt l (show m < j by omega) (by omega) hk
      split
      · exact obsD_at D fr l m hk j (by omega) (by omega)
      · rw [upd_other _ _ _ _ (by omega)]; exact obsD_at D fr l m hk j (by omega) (by omega)
def lfsD (D : Nat → Nat → Int) (at' : Nat) (t : Nat → En) : Nat → Nat → Nat → Int
  | 0 => D
  | k + 1 => upd (lfsD D at' t k) (at' + k) (listF (leafKV (rowE 49 t) (k : Int)))
theorem Fl.lfs (h : Fl n A D) (at' : Nat) (t : Nat → En) (hn : at' + 7 ≤ n) : ∀ k, k ≤ 7 → (lfsP A at' t k).2 = 0 ∧ Fl n (lfsP A at' t k).1 (lfsD D at' t k)
  | 0, _ => ⟨rfl, h⟩
  | k + 1, hk => by
    obtain ⟨h1, h2⟩ := h.lfs at' t hn k (by omega)
    have e : lfsP A at' t (k + 1) = andP (lfsP A at' t k) (putP ((at' + k : Nat) : Int) (listF (leafKV (rowE 49 t) (k : Int)))) := rfl
    rw [e, andP_ok h1]
    have := h2.put (z := ((at' + k : Nat) : Int)) ⟨by omega, by omega⟩ (listF (leafKV (rowE 49 t) (k : Int)))
    rwa [Int.toNat_natCast] at this
theorem lfsD_other (D : Nat → Nat → Int) (at' : Nat) (t : Nat → En) (i : Nat) : ∀ k, (i < at' ∨ at' + k ≤ i) → lfsD D at' t k i = D i
  | 0, _ => rfl
  | k + 1, hi => by
    unfold lfsD
    rw [upd_other _ _ _ _ (by omega)]
    exact lfsD_other D at' t i k (by omega)
theorem lfsD_at (D : Nat → Nat → Int) (at' : Nat) (t : Nat → En) (m : Nat) : ∀ k, m < k → lfsD D at' t k (at' + m) = listF (leafKV (rowE 49 t) (m : Int))
  | 0, h => by omega
  | k + 1, h => by
    unfold lfsD
    by_cases e : m = k
    · subst e; rw [upd_same]
    · rw [upd_other _ _ _ _ (by omega)]; exact lfsD_at D at' t m k (by omega)
def wrtD (D : Nat → Nat → Int) (fr : Nat) (l : List Ob) : Nat → Nat → Int := upd (lfsD (obsD D fr l l.length) (fr + cntO l) (tabO fr l) 7) (fr + cntO l + 7) (rootO (fr + cntO l))
theorem Fl.wrt (h : Fl n A D) (fr : Nat) (l : List Ob) (hn : fr + cntO l + 8 ≤ n) : (wrtP A fr l).2 = 0 ∧ Su n (wrtP A fr l).1 (wrtD D fr l) := by
  obtain ⟨a1, a2⟩ := h.obs fr l (by omega) l.length (Nat.le_refl _)
  obtain ⟨b1, b2⟩ := a2.lfs (fr + cntO l) (tabO fr l) (by omega) 7 (Nat.le_refl _)
  obtain ⟨c1, c2⟩ := b2.put (z := ((fr + cntO l + 7 : Nat) : Int)) ⟨by omega, by omega⟩ (rootO (fr + cntO l))
  rw [Int.toNat_natCast] at c2
  obtain ⟨d1, d2, _⟩ := c2.fence
  unfold wrtP
  rw [andP_ok a1, andP_ok b1, andP_ok c1]
  exact ⟨d1, d2⟩
theorem Su.write (h : Su n A D) (h64 : 64 ≤ n) (s : List Int) (hm : mayS s = true) : A.writeE 0 0 s = 0 ∧ Su n (A.writeZ 0 0 s) (upd D 0 (listF (lineS s))) := by
  have hn : 64 ≤ A.n := by rw [h.n]; exact h64
  obtain ⟨e1, e2, e3⟩ := wrote_free A h.calm.1 h.calm.2 hn 0 ⟨by decide, by decide⟩ 0 0 rfl (by decide) s hm
  have hw := wrote A (fun i => (h.su i).1) hn 0 ⟨by decide, by decide⟩ 0 0 rfl (by decide) s hm
  refine ⟨e1, ⟨e2, e3⟩, (writeZ_n _ _ _ _).trans h.n, fun i => ?_⟩
  by_cases c : i = 0
  · subst c
    rw [upd_same]
    rcases hw.w with ⟨m, _, _, _, h4⟩ | ⟨h1, h2⟩
    · exact absurd e1 h4
    · refine ⟨h2, fun j hj => ?_⟩
      rw [h1, run_stW _ _ 8 j (Nat.le_refl _), if_pos hj]; rfl
  · rw [upd_other _ _ _ _ c]
    obtain ⟨h1, h2⟩ := hw.o i c
    exact ⟨h2, fun j hj => by rw [h1]; exact (h.su i).2 j hj⟩
end
theorem fmtB_iff (c : Int) (l : List Ob) : fmtB c l = true ↔ (1 ≤ c ∧ c ≤ 8) ∧ l.length ≤ 49 ∧ ∀ x ∈ l, obM x = true := by
  unfold fmtB
  rw [Bool.and_eq_true, Bool.and_eq_true, decide_eq_true_iff, decide_eq_true_iff, List.all_eq_true]
theorem obM_iff (x : Ob) : obM x = true ↔ ((0 ≤ x.k ∧ x.k ≤ 4) ∧ 0 ≤ x.v ∧ x.v ≤ 16777215) ∧ (x.k ≠ 0 ∨ ∀ j, j < 8 → x.l j = 0) := by
  unfold obM
  rw [Bool.and_eq_true, Bool.or_eq_true, decide_eq_true_iff, decide_eq_true_iff, eqL_iff]
def fmtD (D : Nat → Nat → Int) (c : Int) (l : List Ob) : Nat → Nat → Int := upd (wrtD (wipeD D (fromN c.toNat)) (fromN c.toNat) l) 0 (listF (lineS (supO c (fromN c.toNat + cntO l))))
theorem supO_may {c : Int} {at' : Nat} (h1 : 1 ≤ c) (h8 : c ≤ 8) (ha : at' + 7 < 1024) : mayS (supO c at') = true := by
  rw [mayS_iff]
  show 1 ≤ (1 : Int) ∧ (1 : Int) ≤ 1099511627776 ∧ 0 ≤ ((at' + 7 : Nat) : Int) ∧ ((at' + 7 : Nat) : Int) < 1024 ∧ 0 ≤ (0 : Int) ∧ (0 : Int) ≤ 1099511627776 ∧ 1 ≤ c ∧ c ≤ 8
  omega
/-- A memory whose lines are all sure is made an image. -/
theorem Su.fmt {n : Nat} {A : Mm} {D : Nat → Nat → Int} (h : Su n A D) (hf : ∀ i, (A.l i).f 0 ≤ (A.l i).t.length) (h64 : 64 ≤ n) (h1024 : n ≤ 1024) {c : Int} {l : List Ob} (hb : fmtB c l = true) (hl : fromN c.toNat + cntO l + 8 ≤ n) :
    (fmtP A c l).2 = 0 ∧ Su n (fmtP A c l).1 (fmtD D c l) := by
  obtain ⟨⟨c1, c8⟩, _, _⟩ := (fmtB_iff _ _).1 hb
  obtain ⟨a1, a2⟩ := (h.fl hf).wipes (fromN c.toNat) (by omega)
  obtain ⟨b1, b2, b3⟩ := a2.fence
  obtain ⟨d1, d2⟩ := (b2.fl b3).wrt (fromN c.toNat) l hl
  obtain ⟨e1, e2⟩ := d2.write h64 _ (supO_may (at' := fromN c.toNat + cntO l) c1 c8 (by omega))
  unfold fmtP
  rw [if_pos hb, if_neg (by rw [h.n]; omega), andP_ok a1, andP_ok b1, andP_ok d1]
  exact ⟨e1, e2⟩

/-! ### an image -/
/-- An image: c cores, a table, its Dir, what the objects' lines have, what is journalled. -/
structure Im (n c : Nat) (tb : Nat → En) (d : Nat → Int) (C : Nat → Nat → Int) (f : Nat → Option Rc) (A : Mm) : Prop where
  an : A.n = n
  hn : 64 ≤ n ∧ n ≤ 1024
  hc : 1 ≤ c ∧ c ≤ 8
  hf : fromN c ≤ n
  s0 : LSu (A.l 0) (listF (lineS [1, d 7, 0, (c : Int)]))
  s1 : (A.l 1).t = [] ∧ (A.l 1).s 7 = 0
  is : ∀ i r, 2 ≤ i → i < fromN c → f i = some r → mayR r = true ∧ LSu (A.l i) (listF (lineR r))
  no : ∀ i, 2 ≤ i → i < fromN c → f i = none → (A.l i).t = [] ∧ (A.l i).s 7 = 0
  img : ImL (fromN c) n A tb d
  ob : ∀ i, i < 49 → (tb i).k ≠ 0 → LSu (A.l (tb i).l.toNat) (C i)
  tz : ∀ i, 49 ≤ i → tb i = ze
  dz : ∀ i, 8 ≤ i → d i = 0
theorem dirO_at (at' k : Nat) (h : k < 8) : dirO at' k = ((at' + k : Nat) : Int) := if_pos h
theorem tabO_k {fr : Nat} {l : List Ob} {i : Nat} (hk : (tabO fr l i).k ≠ 0) : i < l.length ∧ (l.getD i ob0).k ≠ 0 ∧ tabO fr l i = ⟨(l.getD i ob0).k, (l.getD i ob0).v, ((fr + cntO (l.take i) : Nat) : Int)⟩ := by
  unfold tabO at hk ⊢
  split at hk
  · rename_i h
    have hk' : (l.getD i ob0).k ≠ 0 := hk
    refine ⟨h, hk', ?_⟩
    rw [if_pos h]
    unfold entO
    rw [if_neg hk']
  · exact absurd rfl hk
theorem getD_mem {l : List Ob} {i : Nat} (h : i < l.length) : l.getD i ob0 ∈ l := by
  rw [List.getD_eq_getElem?_getD, List.getElem?_eq_getElem h]; exact List.getElem_mem h
theorem tabO_may {fr : Nat} {l : List Ob} (hl : ∀ x ∈ l, obM x = true) (hn : fr + cntO l ≤ 1024) (i : Nat) : mayN (tabO fr l i) = true := by
  by_cases hi : i < l.length
  · have hm := (obM_iff _).1 (hl _ (getD_mem hi))
    unfold tabO
    rw [if_pos hi]
    refine (mayN_iff _).2 ?_
    unfold entO
    simp only
    by_cases hk : (l.getD i ob0).k = 0
    · rw [if_pos hk]; omega
    · rw [if_neg hk]
      have := cnt_lt_all l hi hk
      omega
  · unfold tabO
    rw [if_neg hi]
    decide
theorem leafKV_may {t : Nat → En} (ht : ∀ i, mayN (t i) = true) {k : Nat} (hk : k < 7) : leafKV (rowE 49 t) (k : Int) = leafS (partT (rowE 49 t) k) := by
  unfold leafKV leafV
  rw [if_pos ⟨by omega, by omega⟩, Int.toNat_natCast, if_pos ((mayX_iff _).2 fun i hi => by rw [partT_at _ _ _ hi, rowE_at 49 _ _ (by omega)]; exact ht _)]
theorem rootO_may {at' : Nat} (ha : at' + 8 ≤ 1024) : rootV (tab7 (dirO at')) = rootS (tab7 (dirO at')) := by
  unfold rootV
  rw [if_pos ((mayT_iff _).2 fun i hi => by rw [tab7_get _ _ hi, dirO_at _ _ (by omega)]; omega)]
theorem Im.of_fmt {n : Nat} {A : Mm} {D : Nat → Nat → Int} {c : Nat} {l : List Ob} (hb : fmtB (c : Int) l = true) (h64 : 64 ≤ n) (h1024 : n ≤ 1024) (hl : fromN c + cntO l + 8 ≤ n) (h : Su n A (fmtD D (c : Int) l)) :
    Im n c (tabO (fromN c) l) (dirO (fromN c + cntO l)) (fun i => (l.getD i ob0).l) (fun _ => none) A := by
  obtain ⟨⟨c1, c8⟩, l49, lm⟩ := (fmtB_iff _ _).1 hb
  have hto : fmtD D (c : Int) l = upd (wrtD (wipeD D (fromN c)) (fromN c) l) 0 (listF (lineS (supO (c : Int) (fromN c + cntO l)))) := by unfold fmtD; rw [Int.toNat_natCast]
  rw [hto] at h
  have h2 : 2 ≤ fromN c := by unfold fromN; omega
  have hlow : ∀ i, 1 ≤ i → i < fromN c → upd (wrtD (wipeD D (fromN c)) (fromN c) l) 0 (listF (lineS (supO (c : Int) (fromN c + cntO l)))) i = upd (D i) 7 0 := fun i h1 hi => by
    rw [upd_other _ _ _ _ (by omega)]
    unfold wrtD
    rw [upd_other _ _ _ _ (by omega), lfsD_other _ _ _ _ _ (by omega), obsD_other _ _ _ _ _ (Nat.le_refl _) (by omega)]
    exact if_pos hi
  have hs7 : ∀ i, 1 ≤ i → i < fromN c → (A.l i).t = [] ∧ (A.l i).s 7 = 0 := fun i h1 hi => by
    have := h.su i
    rw [hlow i h1 hi] at this
    exact ⟨this.1, by rw [this.2 7 (by decide), upd_same]⟩
  have hmay := tabO_may (fr := fromN c) lm (by omega)
  have hd : ∀ k, k < 8 → dirO (fromN c + cntO l) k = ((fromN c + cntO l + k : Nat) : Int) := fun k hk => dirO_at _ _ hk
  refine ⟨h.n, ⟨h64, h1024⟩, ⟨by omega, by omega⟩, by omega, ?_, hs7 1 (by omega) (by omega), fun i r _ _ e => (by cases e), fun i hi1 hi2 _ => hs7 i (by omega) hi2, ⟨fun k hk => ?_, ?_, fun i _ => hmay i, fun i hi => ?_, fun i hi hk => ?_, fun i j hi hj hij => ?_, fun i j hi hj hk => ?_, fun i j hi hj hij hki hkj => ?_⟩, fun i hi hk => ?_, fun i hi => if_neg (by omega), fun i hi => if_neg (by omega)⟩
  · have := h.su 0
    rw [upd_same] at this
    rw [hd 7 (by decide)]
    exact this
  · rw [hd k (by omega), Int.toNat_natCast]
    have := h.su (fromN c + cntO l + k)
    rw [upd_other _ _ _ _ (by omega)] at this
    unfold wrtD at this
    rw [upd_other _ _ _ _ (by omega), lfsD_at _ _ _ k 7 hk, leafKV_may hmay hk] at this
    exact this
  · rw [hd 7 (by decide), Int.toNat_natCast]
    have := h.su (fromN c + cntO l + 7)
    rw [upd_other _ _ _ _ (by omega)] at this
    unfold wrtD at this
    rw [upd_same] at this
    unfold rootO at this
    rw [rootO_may (by omega)] at this
    exact this
  · rw [hd i hi]; omega
  · obtain ⟨a1, a2, a3⟩ := tabO_k hk
    have := cnt_lt_all l a1 a2
    rw [a3]
    simp only
    omega
  · rw [hd i hi, hd j hj]; omega
  · obtain ⟨a1, a2, a3⟩ := tabO_k hk
    have := cnt_lt_all l a1 a2
    rw [hd i hi, a3]
    simp only
    omega
  · obtain ⟨a1, a2, a3⟩ := tabO_k hki
    obtain ⟨b1, b2, b3⟩ := tabO_k hkj
    rw [a3, b3]
    simp only
    rcases Nat.lt_or_ge i j with q | q
    · have := cnt_lt l q (by omega) a2; omega
    · have := cnt_lt l (show j < i by omega) (by omega) b2; omega
  · obtain ⟨a1, a2, a3⟩ := tabO_k hk
    have hlt := cnt_lt_all l a1 a2
    rw [a3]
    simp only
    rw [Int.toNat_natCast]
    have := h.su (fromN c + cntO (l.take i))
    rw [upd_other _ _ _ _ (by omega)] at this
    unfold wrtD at this
    rw [upd_other _ _ _ _ (by omega), lfsD_other _ _ _ _ _ (by omega), obsD_at _ _ _ i a2 _ a1 (Nat.le_refl _)] at this
    exact this

end Go.Proofs.YtiafhcgaikapcaaGreat
