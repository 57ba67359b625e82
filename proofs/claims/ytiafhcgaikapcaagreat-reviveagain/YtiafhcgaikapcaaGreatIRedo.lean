
/-
  What Boot comes to on an image, and what is done again: whether the power goes off or not, the image stays; with the power on, each page has its records. No program.
-/
import Derived.Test.YtiafhcgaikapcaaGreatIFmt
import Derived.Test.YtiafhcgaikapcaaGreatPkIv
namespace Go.Proofs.YtiafhcgaikapcaaGreat
set_option linter.unusedVariables false
set_option maxRecDepth 10000

/-! ### a Set leaves the lines that are not its own -/
theorem layM_otherS {S : Sto} {A : Mm} {y : Nat} (hy : S.F.allocE = 0 → y ≠ S.F.allocV.toNat) (l : Nat → Int) : (S.layM A l).l y = A.l y := by
  unfold Sto.layM
  split
  · rename_i ha; exact layP_other _ _ _ _ (hy ha) 8
  · rfl
theorem setM_otherS {S : Sto} (A : Mm) (hi : Inv S) {y : Nat} (h1 : S.F.allocE = 0 → y ≠ S.F.allocV.toNat) (h2 : ∀ j, j < 49 → (S.w j).k ≠ 0 → S.own (S.w j).l = true → y ≠ (S.w j).l.toNat) (z q v : Int) : (S.setM A z q v).l y = A.l y := by
  unfold Sto.setM
  split
  · rename_i c
    have hf := findE_ok c.2
    split
    · rename_i ho
      exact storeZ_other _ _ _ _ _ (h2 z.toNat (by omega) hf.2.2 ho)
    · split
      · exact layM_otherS h1 _
      · rfl
  · rfl
theorem tk_newS {F : Fr} (ha : F.allocE = 0) {y : Int} (hy : F.tk y) : y.toNat ≠ F.allocV.toNat := fun e => by
  have h1 := tk_ne ha hy
  have h2 := hy.1.1
  have h3 := (isF_new ha).1
  omega
/-- A line that the base names. -/
theorem setM_base {S : Sto} {A : Mm} (hi : Inv S) {i : Nat} (h49 : i < 49) (hk : (S.b i).k ≠ 0) (z q v : Int) : (S.setM A z q v).l (S.b i).l.toNat = A.l (S.b i).l.toNat := by
  have ht := hi.tb i h49 hk
  refine setM_otherS A hi (fun ha => tk_newS ha ht) (fun j hj hkj ho e => ?_) z q v
  have h3 := (hi.tw j hj hkj).1.1
  have h4 := ht.1.1
  have he : (S.b i).l = (S.w j).l := by omega
  rw [← he] at ho
  exact own_shared ho (Or.inl ((hasB_iff _ _).2 ⟨i, h49, hk, rfl⟩))
theorem setM_dir {S : Sto} {A : Mm} (hi : Inv S) {i : Nat} (h8 : i < 8) (z q v : Int) : (S.setM A z q v).l (S.d i).toNat = A.l (S.d i).toNat := by
  have ht := hi.td i h8
  refine setM_otherS A hi (fun ha => tk_newS ha ht) (fun j hj hkj _ e => ?_) z q v
  have h3 := (hi.tw j hj hkj).1.1
  have h4 := ht.1.1
  exact hi.dw i j h8 hj hkj (by omega)
theorem setM_low {S : Sto} {A : Mm} (hi : Inv S) {y : Nat} (hy : y < S.F.lo) (z q v : Int) : (S.setM A z q v).l y = A.l y := by
  refine setM_otherS A hi (fun ha => ?_) (fun j hj hkj _ => ?_) z q v
  · have := (isF_new ha).1; omega
  · have := (hi.tw j hj hkj).1.1; omega

/-! ### the image stays -/
section
variable {n c : Nat} {tb : Nat → En} {d : Nat → Int} {C : Nat → Nat → Int} {f : Nat → Option Rc} {A : Mm}
theorem Im.same (h : Im n c tb d C f A) {B : Mm} (hn : B.n = A.n) (h1 : ∀ y, y < fromN c → B.l y = A.l y) (h2 : ∀ i, i < 8 → B.l (d i).toNat = A.l (d i).toNat) (h3 : ∀ i, i < 49 → (tb i).k ≠ 0 → B.l (tb i).l.toNat = A.l (tb i).l.toNat) : Im n c tb d C f B := by
  have hl2 : 2 ≤ fromN c := by unfold fromN; omega
  refine ⟨hn.trans h.an, h.hn, h.hc, h.hf, by rw [h1 0 (by omega)]; exact h.s0, by rw [h1 1 (by omega)]; exact h.s1, fun i r a b e => by rw [h1 i b]; exact h.is i r a b e, fun i a b e => by rw [h1 i b]; exact h.no i a b e, ⟨fun k hk => by rw [h2 k (by omega)]; exact h.img.lf k hk, by rw [h2 7 (by decide)]; exact h.img.rt, h.img.may, h.img.db, h.img.te, h.img.dd, h.img.dt, h.img.tt⟩, fun i hi hk => by rw [h3 i hi hk]; exact h.ob i hi hk, h.tz, h.dz⟩
theorem Im.crash (h : Im n c tb d C f A) (keep : List Int) : Im n c tb d C f (A.crash keep) :=
  ⟨h.an, h.hn, h.hc, h.hf, crash_su h.s0 keep, ⟨rfl, by rw [crash_sure A keep 1 h.s1.1]; exact h.s1.2⟩, fun i r a b e => ⟨(h.is i r a b e).1, crash_su (h.is i r a b e).2 keep⟩, fun i a b e => ⟨rfl, by rw [crash_sure A keep i (h.no i a b e).1]; exact (h.no i a b e).2⟩, h.img.crash keep, fun i hi hk => crash_su (h.ob i hi hk) keep, h.tz, h.dz⟩
theorem Im.fused (h : Im n c tb d C f A) (z : Int) : Im n c tb d C f (A.fused z) := h.same rfl (fun _ _ => rfl) (fun _ _ => rfl) (fun _ _ _ => rfl)
theorem su_has {L : Ln} {l : List Int} (hl : l.length = 8) (h : LSu L (listF l)) : rowOf L.has = l := by
  refine list_ext0 (n := 8) (rowOf_len _) hl fun m hm => ?_
  rw [rowOf_get _ m hm]; exact h.hs m hm
theorem has7 {L : Ln} (h : L.t = [] ∧ L.s 7 = 0) : (rowOf L.has).getD 7 0 = 0 := by
  rw [rowOf_get _ 7 (by decide), has_sure h.1]; exact h.2
theorem Im.may (h : Im n c tb d C f A) : mayS [1, d 7, 0, (c : Int)] = true := by
  have h7 := h.img.db 7 (by decide)
  have h8 := h.hc
  have h9 := h.hn
  rw [mayS_iff]
  show 1 ≤ (1 : Int) ∧ (1 : Int) ≤ 1099511627776 ∧ 0 ≤ d 7 ∧ d 7 < 1024 ∧ 0 ≤ (0 : Int) ∧ (0 : Int) ≤ 1099511627776 ∧ 1 ≤ (c : Int) ∧ (c : Int) ≤ 8
  omega
theorem Im.found (h : Im n c tb d C f A) (hon : A.on = true) : A.findE = 0 ∧ A.findV = [1, d 7, 0, (c : Int)] ∧ A.findAt = 0 := by
  have r0 : rowOf (A.l 0).has = lineS [1, d 7, 0, (c : Int)] := su_has (lineS_len _) h.s0
  have r1 := isS_nought _ (has7 h.s1)
  obtain ⟨b1, b2, b3⟩ := best_one [1, d 7, 0, (c : Int)] rfl h.may _ r1
  unfold Mm.findE Mm.findV Mm.findAt Mm.bestM
  rw [hon, r0, b1, b2, b3]
  exact ⟨rfl, rfl, rfl⟩
theorem Im.cs (h : Im n c tb d C f A) (hon : A.on = true) : A.cs = (c : Int) ∧ A.rt = d 7 ∧ A.sq = 0 ∧ A.fr = fromN c := by
  have e := (h.found hon).2.1
  unfold Mm.fr Mm.cs Mm.rt Mm.sq
  rw [e]
  exact ⟨rfl, rfl, rfl, rfl⟩
theorem Im.load (h : Im n c tb d C f A) (hon : A.on = true) : ldE A (A.fr : Int) A.rt = 0 ∧ A.tb = tb ∧ A.di = d := by
  obtain ⟨e1, e2, e3, e4⟩ := h.cs hon
  obtain ⟨l1, l2⟩ := h.img.load h.hn.2 h.an hon
  have l3 := (h.img.root h.hn.2).2
  have hB : loadB A (fromN c : Int) (d 7) = true := by
    unfold ldE at l2
    rw [if_pos hon] at l2
    split at l2
    · assumption
    · cases l2
  refine ⟨by rw [e4, e2]; exact l2, ?_, ?_⟩
  · unfold Mm.tb
    rw [e4, e2, l1]
    funext i
    by_cases hi : i < 49
    · exact rowE_at 49 _ _ hi
    · rw [h.tz i (by omega)]
      have hl := rowE_len 49 tb
      unfold enAt
      rw [List.getD_eq_getElem?_getD, List.getD_eq_getElem?_getD, List.getD_eq_getElem?_getD, List.getElem?_eq_none (by omega), List.getElem?_eq_none (by omega), List.getElem?_eq_none (by omega)]
      rfl
  · unfold Mm.di
    rw [e4, e2]
    funext i
    by_cases hi : i < 7
    · rw [if_pos hi]
      unfold ldL
      rw [if_pos ⟨hon, hB⟩, l3, tab7_get _ _ hi]
    · rw [if_neg hi]
      by_cases h7 : i = 7
      · rw [if_pos h7, h7]
      · rw [if_neg h7, h.dz i (by omega)]
theorem Im.claim (h : Im n c tb d C f A) : ofB (Fr.new (fromN c) n) tb d = true := by
  refine (takesB_iff _ _).2 ⟨fun z hz => ?_, ?_⟩
  · have hb : (fromN c : Int) ≤ z ∧ z < n := by
      rcases List.mem_append.1 hz with hz | hz
      · obtain ⟨i, hi, rfl⟩ := List.mem_map.1 hz
        exact h.img.db i (List.mem_range.1 hi)
      · obtain ⟨i, hi, hk, rfl⟩ := (linesTo_mem _ _ _).1 hz
        exact h.img.te i hi hk
    exact ⟨hb, rfl⟩
  · refine List.nodup_append.2 ⟨?_, ?_, fun a ha b hb e => ?_⟩
    · unfold dirTo
      rw [List.nodup_iff_pairwise_ne, List.pairwise_map]
      refine List.Pairwise.imp_of_mem ?_ List.nodup_range
      intro i j hi hj hij
      exact h.img.dd i j (List.mem_range.1 hi) (List.mem_range.1 hj) hij
    · show (linesTo tb 49).Nodup
      unfold linesTo
      rw [List.nodup_iff_pairwise_ne, List.pairwise_map]
      refine List.Pairwise.imp_of_mem ?_ (List.nodup_range.filter _)
      intro i j hi hj hij
      have hi' := List.mem_filter.1 hi
      have hj' := List.mem_filter.1 hj
      exact h.img.tt i j (List.mem_range.1 hi'.1) (List.mem_range.1 hj'.1) hij (by simpa using hi'.2) (by simpa using hj'.2)
    · obtain ⟨i, hi, rfl⟩ := List.mem_map.1 ha
      obtain ⟨j, hj, hk, q⟩ := (linesTo_mem _ _ _).1 hb
      exact h.img.dt i j (List.mem_range.1 hi) hj hk (e.trans q.symm)
theorem Im.read (h : Im n c tb d C f A) (hon : A.on = true) : rdE A = 0 ∧ rdS A = ofS (Fr.new (fromN c) n) tb d := by
  obtain ⟨e1, e2, e3, e4⟩ := h.cs hon
  obtain ⟨l1, l2, l3⟩ := h.load hon
  unfold rdE rdS
  rw [l1, l2, l3, e4, h.an, if_neg (by have := h.hf; omega), if_pos rfl, if_pos h.claim]
  exact ⟨rfl, rfl⟩
/-- The records of the logs. -/
def recI (f : Nat → Option Rc) : Nat → List Rc
  | 0 => []
  | j + 1 => recI f j ++ (f (2 + j)).toList
theorem Im.recs (h : Im n c tb d C f A) : ∀ j, 2 + j ≤ fromN c → A.recs j = recI f j
  | 0, _ => rfl
  | j + 1, hj => by
    unfold Mm.recs recI recAt
    rw [h.recs j (by omega)]
    congr 1
    unfold Mm.rowN
    cases hf : f (2 + j) with
    | none =>
      rw [isR_nought _ (has7 (h.no (2 + j) (by omega) (by omega) hf))]; rfl
    | some r =>
      obtain ⟨h1, h2⟩ := h.is (2 + j) r (by omega) (by omega) hf
      rw [su_has (lineR_len r) h2, isR_line r h1, readRV_line r h1]; rfl
theorem Im.scanned (h : Im n c tb d C f A) (hon : A.on = true) : A.rs = sortR (recI f (4 * c)) := by
  obtain ⟨e1, _⟩ := h.cs hon
  unfold Mm.rs Mm.scanV
  rw [e1, if_pos ⟨by have := h.hc; unfold isCores; omega, hon⟩, Int.toNat_natCast, h.recs (4 * c) (by unfold fromN; omega)]
end

/-! ### what is done again -/
/-- A store that was read from an image, and set since. -/
structure Ib (n c : Nat) (tb : Nat → En) (d : Nat → Int) (S : Sto) : Prop where
  inv : Inv S
  ok : S.ok
  b : S.b = tb
  d : S.d = d
  lo : S.F.lo = fromN c
  hi : S.F.hi = n
  k : ∀ i, S.k i = ze
  w : ∀ i, i < 49 → (S.w i).k = (tb i).k ∧ (S.w i).v = (tb i).v
section
variable {n c : Nat} {tb : Nat → En} {d : Nat → Int} {C : Nat → Nat → Int} {f : Nat → Option Rc} {A : Mm} {S : Sto}
theorem Im.start (h : Im n c tb d C f A) : Ib n c tb d (ofS (Fr.new (fromN c) n) tb d) := by
  have hB := h.claim
  have hs : ∀ i : Nat, (ofS (Fr.new (fromN c) n) tb d).F.s i = if (i : Int) ∈ claimL tb d then 1 else 0 := fun i => takeL_s _ _ hB i
  have ht := (takesB_iff _ _).1 hB
  have hlo : (ofS (Fr.new (fromN c) n) tb d).F.lo = fromN c ∧ (ofS (Fr.new (fromN c) n) tb d).F.hi = n := takeL_lo _ _
  have tk : ∀ z, z ∈ claimL tb d → (ofS (Fr.new (fromN c) n) tb d).F.tk z := fun z hz => by
    have h3 := (ht.1 z hz).1
    have h4 : ((fromN c : Nat) : Int) ≤ z := h3.1
    refine ⟨⟨by rw [hlo.1]; exact h3.1, by rw [hlo.2]; exact h3.2⟩, ?_⟩
    have hz0 : ((z.toNat : Nat) : Int) = z := by omega
    rw [hs, hz0, if_pos hz]
  have mw : ∀ i, i < 49 → (tb i).k ≠ 0 → (tb i).l ∈ claimL tb d := fun i hi hk => List.mem_append_right _ ((linesTo_mem _ _ _).2 ⟨i, hi, hk, rfl⟩)
  have md : ∀ i, i < 8 → d i ∈ claimL tb d := fun i hi => List.mem_append_left _ (by unfold dirTo; exact List.mem_map.2 ⟨i, List.mem_range.2 hi, rfl⟩)
  refine ⟨⟨fun i => ?_, fun i hi hk => tk _ (mw i hi hk), fun i hi hk => absurd rfl hk, fun i hi hk => tk _ (mw i hi hk), fun i j hi hj hij h1 h2 => h.img.tt i j hi hj hij h1 h2, fun i hi => tk _ (md i hi), fun i j hi hj hk => h.img.dt i j hi hj hk⟩, ofS_ok (new_ok h.hf h.hn.2) (fun i hi => ?_) d, rfl, rfl, hlo.1, hlo.2, fun i => rfl, fun i hi => ⟨rfl, rfl⟩⟩
  · rw [hs]; split
    · exact Or.inr rfl
    · exact Or.inl rfl
  · have := (mayN_iff _).1 (h.img.may i hi)
    exact ⟨this.2.2.1, this.2.2.2.1⟩
theorem setS_w (S : Sto) (A : Mm) (z q v : Int) (i : Nat) : ((S.setS A z q v).w i).k = (S.w i).k ∧ ((S.setS A z q v).w i).v = (S.w i).v := by
  unfold Sto.setS
  repeat' split
  all_goals first
    | exact ⟨rfl, rfl⟩
    | (show (upd S.w _ _ i).k = _ ∧ (upd S.w _ _ i).v = _
       unfold upd
       split
       · rename_i e; rw [e]; exact ⟨rfl, rfl⟩
       · exact ⟨rfl, rfl⟩)
theorem setS_rest (S : Sto) (A : Mm) (z q v : Int) : (S.setS A z q v).b = S.b ∧ (S.setS A z q v).d = S.d ∧ (S.setS A z q v).k = S.k ∧ (S.setS A z q v).is = S.is := by
  unfold Sto.setS
  repeat' split
  all_goals exact ⟨rfl, rfl, rfl, rfl⟩
theorem Ib.set (h : Ib n c tb d S) (A : Mm) (z q v : Int) : Ib n c tb d (S.setS A z q v) := by
  obtain ⟨r1, r2, r3, _⟩ := setS_rest S A z q v
  have hl := lohi_set S A z q v
  exact ⟨inv_set h.inv A z q v, setS_ok h.ok A z q v, r1.trans h.b, r2.trans h.d, hl.1.trans h.lo, hl.2.trans h.hi, fun i => by rw [r3]; exact h.k i, fun i hi => ⟨(setS_w S A z q v i).1.trans (h.w i hi).1, (setS_w S A z q v i).2.trans (h.w i hi).2⟩⟩
theorem Im.set (h : Im n c tb d C f A) (hS : Ib n c tb d S) (z q v : Int) : Im n c tb d C f (S.setM A z q v) :=
  h.same (setM_n _ _ _ _ _) (fun y hy => setM_low hS.inv (by rw [hS.lo]; exact hy) z q v) (fun i hi => by
    have := setM_dir (A := A) hS.inv hi z q v
    rw [hS.d] at this; exact this) (fun i hi hk => by
    have := setM_base (A := A) hS.inv hi (by rw [hS.b]; exact hk) z q v
    rw [hS.b] at this; exact this)
/-- Whatever is done again, the image stays. -/
theorem Im.redo (h : Im n c tb d C f A) (hS : Ib n c tb d S) (t : Nat → En) (q : Int) (rs : List Rc) (j : Nat) (hj : j ≤ rs.length) : Ib n c tb d (redP t q rs S A j).1 ∧ Im n c tb d C f (redP t q rs S A j).2.1 :=
  redP_all (P := fun S A _ => Ib n c tb d S ∧ Im n c tb d C f A) (fun _ _ _ h => h) (fun i S A hi hb ⟨h1, h2⟩ => ⟨h1.set _ _ _ _, h2.set h1 _ _ _⟩) ⟨hS, h⟩ j hj
theorem Im.booted (h : Im n c tb d C f A) : Im n c tb d C f (bootM A) := by
  unfold bootM
  split
  · rename_i he
    split
    · have hon : A.on = true := by
        unfold Mm.findE at he
        split at he
        · assumption
        · cases he
      have hr := (h.read hon).2
      unfold rd2
      rw [hr]
      exact (h.redo h.start _ _ _ _ (Nat.le_refl _)).2
    · exact h
  · exact h
/-- The numbers stay in their bounds. -/
theorem redP_ok {t : Nat → En} {q : Int} {rs : List Rc} (hr : ∀ r ∈ rs, InU r.v) {S : Sto} {A : Mm} {B : Nat} (hS : S.ok) (hA : A.ok B) (j : Nat) (hj : j ≤ rs.length) : (redP t q rs S A j).1.ok ∧ (redP t q rs S A j).2.1.ok (B + 8 * j) ∧ (redP t q rs S A j).2.1.n = A.n :=
  redP_all (P := fun S' A' j => S'.ok ∧ A'.ok (B + 8 * j) ∧ A'.n = A.n) (fun j _ _ h => ⟨h.1, ok_mono h.2.1 (by omega), h.2.2⟩) (fun i S' A' hi hb ⟨h1, h2, h3⟩ => by
    have hv : InU (rs.getD i zr).v := hr _ (by rw [List.getD_eq_getElem?_getD, List.getElem?_eq_getElem hi]; exact List.getElem_mem hi)
    exact ⟨setS_ok h1 _ _ _ _, ok_mono (setM_ok h2 _ _ _ hv) (by omega), (setM_n _ _ _ _ _).trans h3⟩) ⟨hS, hA, rfl⟩ j hj

/-! ### with the power on -/
/-- What the objects' lines have, behind j records. -/
def redC (t : Nat → En) (q : Int) (rs : List Rc) (C : Nat → Nat → Int) : Nat → Nat → Nat → Int
  | 0 => C
  | j + 1 => if redB t q (rs.getD j zr) = true then upd (redC t q rs C j) (rs.getD j zr).d.toNat (upd (redC t q rs C j (rs.getD j zr).d.toNat) (rs.getD j zr).o.toNat (rs.getD j zr).v) else redC t q rs C j
/-- The objects' words, and how many frames are left. -/
structure Ic (n c : Nat) (tb : Nat → En) (d : Nat → Int) (C : Nat → Nat → Int) (m : Nat) (S : Sto) (A : Mm) : Prop extends Ib n c tb d S where
  calm : Calm A
  an : A.n = n
  has : ∀ i, i < 49 → (tb i).k ≠ 0 → ∀ j, j < 8 → A.hasZ (S.w i).l j = C i j
  left : m ≤ S.F.left
theorem Ic.set {m : Nat} (h : Ic n c tb d C (m + 1) S A) {z q v : Int} (hz : 0 ≤ z ∧ z < 49) (hk : (tb z.toNat).k ≠ 0) (hq : is8 q) : S.setE A z q v = 0 ∧ Ic n c tb d (upd C z.toNat (upd (C z.toNat) q.toNat v)) m (S.setS A z q v) (S.setM A z q v) := by
  have hwk : (S.w z.toNat).k ≠ 0 := by rw [(h.w z.toNat (by omega)).1]; exact hk
  have hf : S.findE z = 0 := by unfold Sto.findE; rw [if_pos hz, if_neg hwk]
  have hN : S.F.hi ≤ A.n := by rw [h.hi, h.an]; exact Nat.le_refl _
  have htk := h.inv.tw z.toNat (by omega) hwk
  have hline : S.line z = (S.w z.toNat).l := rfl
  have hzz : A.isZ (S.line z) := isZ_isF hN htk.1
  have hbase := h.toIb.set A z q v
  have hcalm := (keep_set h.inv h.calm hN z q v).1
  have han : (S.setM A z q v).n = n := (setM_n _ _ _ _ _).trans h.an
  rcases Bool.eq_false_or_eq_true (S.own (S.line z)) with ho | ho
  · obtain ⟨e1, e2, e3⟩ := set_again h.calm hq hf ho hzz v
    rw [e2] at hbase
    rw [e3] at hcalm han
    rw [e1, e2, e3]
    refine ⟨rfl, ⟨hbase, hcalm, han, fun i hi hki j hj => ?_, by have := h.left; omega⟩⟩
    have hwi : (S.w i).k ≠ 0 := by rw [(h.w i hi).1]; exact hki
    rw [has_store h.calm hzz hq v _ (isZ_isF hN (h.inv.tw i hi hwi).1)]
    by_cases e : i = z.toNat
    · subst e
      rw [hline, if_pos rfl, upd_same]
      unfold upd
      split
      · rfl
      · exact h.has _ hi hki j hj
    · rw [hline, if_neg (fun q => h.inv.wd i z.toNat hi (by omega) e hwi hwk q), upd_other _ _ _ _ e]
      exact h.has i hi hki j hj
  · have ha : S.F.allocE = 0 := by
      rcases Classical.em (S.F.allocE = 0) with q | q
      · exact q
      · have := left_none q; have := h.left; omega
    have hy : A.isZ S.F.allocV := isZ_isF hN (isF_new ha)
    obtain ⟨e1, e2, e3⟩ := set_first h.calm hq hf ho hzz ha hy v
    obtain ⟨_, l2, l3, l4⟩ := lay_calm h.calm ha hy (S.copy A z q v)
    rw [e2] at hbase
    rw [e3] at hcalm han
    rw [e1, e2, e3]
    refine ⟨rfl, ⟨hbase, hcalm, han, fun i hi hki j hj => ?_, ?_⟩⟩
    · have hwi : (S.w i).k ≠ 0 := by rw [(h.w i hi).1]; exact hki
      show (S.layM A (S.copy A z q v)).hasZ (upd S.w z.toNat (moved (S.w z.toNat) S.F.allocV) i).l j = _
      by_cases e : i = z.toNat
      · subst e
        rw [upd_same, upd_same]
        show (S.layM A (S.copy A z q v)).hasZ S.F.allocV j = _
        rw [l4 j hj]
        unfold Sto.copy upd
        split
        · rfl
        · exact h.has _ hi hki j hj
      · rw [upd_other _ _ _ _ e, upd_other _ _ _ _ e, l3 _ (isZ_isF hN (h.inv.tw i hi hwi).1) (tk_ne ha (h.inv.tw i hi hwi))]
        exact h.has i hi hki j hj
    · show m ≤ S.F.allocA.left
      have := left_alloc ha
      have := h.left
      omega
/-- All records are done again, with the power on and frames enough. -/
theorem Ic.redo {q : Int} {rs : List Rc} (hr : ∀ r ∈ rs, mayR r = true) (h : Ic n c tb d C rs.length S A) : ∀ j, j ≤ rs.length → (redP tb q rs S A j).2.2 = 0 ∧ Ic n c tb d (redC tb q rs C j) (rs.length - j) (redP tb q rs S A j).1 (redP tb q rs S A j).2.1
  | 0, _ => ⟨rfl, h⟩
  | j + 1, hj => by
    obtain ⟨h1, h2⟩ := Ic.redo hr h j (by omega)
    unfold redC
    by_cases hb : redB tb q (rs.getD j zr) = true
    · rw [redP_yes h1 hb, if_pos hb]
      have hm := (mayR_iff _).1 (hr (rs.getD j zr) (by rw [List.getD_eq_getElem?_getD, List.getElem?_eq_getElem (show j < rs.length by omega)]; exact List.getElem_mem _))
      have hb2 : q < (rs.getD j zr).q ∧ (tb (rs.getD j zr).d.toNat).k = 1 := by
        unfold redB at hb
        rw [Bool.and_eq_true, decide_eq_true_iff, decide_eq_true_iff] at hb
        exact hb
      rw [show rs.length - j = (rs.length - (j + 1)) + 1 by omega] at h2
      exact h2.set ⟨hm.2.2.1, hm.2.2.2.1⟩ (by rw [hb2.2]; decide) ⟨hm.2.2.2.2.1, by omega⟩
    · rw [redP_not hb, if_neg hb]
      exact ⟨h1, h2.toIb, h2.calm, h2.an, h2.has, by have := h2.left; omega⟩
end

end Go.Proofs.YtiafhcgaikapcaaGreat
