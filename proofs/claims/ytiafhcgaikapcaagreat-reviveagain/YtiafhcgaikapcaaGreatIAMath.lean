
/-
  Up to thirty objects of a call's own, made an image of two cores; up to four records behind it: what each word is, in the order that they are done again. No program.
-/
import Derived.Test.YtiafhcgaikapcaaGreatITwo
import Derived.Test.YtiafhcgaikapcaaGreatIORow
namespace Go.Proofs.YtiafhcgaikapcaaGreat
set_option linter.unusedVariables false
set_option maxRecDepth 10000

def ownX (x : Ob) : Ob := ⟨1 + (kindN x.k 4 : Nat), (kindN x.v 100 : Nat), x.l⟩
def ownO (l : List Ob) (i : Nat) : List Ob := (l.take i).map ownX
theorem ownO_len (l : List Ob) (i : Nat) (h : i ≤ l.length) : (ownO l i).length = i := by unfold ownO; rw [List.length_map, List.length_take]; omega
theorem ownO_next (l : List Ob) (i : Nat) (h : i < l.length) : ownO l (i + 1) = ownO l i ++ [ownX (l.getD i ob0)] := by
  unfold ownO
  rw [List.take_add_one, List.map_append, List.getElem?_eq_getElem h, List.getD_eq_getElem?_getD, List.getElem?_eq_getElem h]; rfl
theorem ownX_in {x : Ob} (h : ObIn x) : ObIn (ownX x) := by
  have h1 := kindN_lt x.k 4 (by decide)
  have h2 := kindN_lt x.v 100 (by decide)
  exact ⟨⟨by show _ ≤ (1 : Int) + _; omega, by show (1 : Int) + _ ≤ _; omega⟩, ⟨by show _ ≤ ((_ : Nat) : Int); omega, by show ((_ : Nat) : Int) ≤ _; omega⟩, h.2.2⟩
theorem ownO_in {l : List Ob} (h : ∀ x ∈ l, ObIn x) (i : Nat) : ∀ x ∈ ownO l i, ObIn x := fun x hx => by
  obtain ⟨y, hy, rfl⟩ := List.mem_map.1 hx
  exact ownX_in (h y (List.mem_of_mem_take hy))
theorem ownO_k {l : List Ob} (i : Nat) : ∀ x ∈ ownO l i, x.k ≠ 0 := fun x hx => by
  obtain ⟨y, hy, rfl⟩ := List.mem_map.1 hx
  show (1 : Int) + _ ≠ 0
  omega
theorem ownO_fmt (l : List Ob) (i : Nat) (hi : i ≤ 30) : fmtB ((2 : Nat) : Int) (ownO l i) = true := by
  unfold fmtB
  rw [Bool.and_eq_true, Bool.and_eq_true]
  refine ⟨by decide, ?_, ?_⟩
  · rw [decide_eq_true_iff]; unfold ownO; rw [List.length_map, List.length_take]; omega
  · rw [List.all_eq_true]
    intro x hx
    have hk := ownO_k i x hx
    obtain ⟨y, hy, rfl⟩ := List.mem_map.1 hx
    have h1 := kindN_lt y.k 4 (by decide)
    have h2 := kindN_lt y.v 100 (by decide)
    unfold obM
    rw [Bool.and_eq_true, decide_eq_true_iff, Bool.or_eq_true, decide_eq_true_iff]
    exact ⟨⟨⟨by show (0 : Int) ≤ 1 + _; omega, by show (1 : Int) + _ ≤ 4; omega⟩, by show (0 : Int) ≤ ((_ : Nat) : Int); omega, by show ((_ : Nat) : Int) ≤ _; omega⟩, Or.inl hk⟩

/-! ### the records -/
def rcA (v : List Int) (i : Nat) : Rc := ⟨(i : Int) + 1, (v.getD i 0) % 30, (i : Int), v.getD i 0⟩
def atA (i : Nat) : Nat := 2 + 4 * (i % 2) + i / 2
def fA (v : List Int) : Nat → Nat → Option Rc
  | 0 => fun _ => none
  | i + 1 => upd (fA v i) (atA i) (some (rcA v i))
theorem fA_no (v : List Int) (i : Nat) (hi : i < 4) : fA v i (atA i) = none := by
  match i, hi with
  | 0, _ => rfl
  | 1, _ => rfl
  | 2, _ => rfl
  | 3, _ => rfl
theorem rcA_busy (v : List Int) (i : Nat) : decide ((rcA v i).q ≤ 0) = false := by
  rw [decide_eq_false_iff_not]
  show ¬ ((i : Int) + 1 ≤ 0)
  omega
theorem fA_busy (v : List Int) (i : Nat) (hi : i < 4) : ∀ j, j < i / 2 → freeI (fA v i) (i % 2) 0 j = false := by
  match i, hi with
  | 0, _ => intro j hj; exact absurd hj (Nat.not_lt_zero j)
  | 1, _ => intro j hj; exact absurd hj (Nat.not_lt_zero j)
  | 2, _ =>
    intro j hj
    obtain rfl : j = 0 := by omega
    exact rcA_busy v 0
  | 3, _ =>
    intro j hj
    obtain rfl : j = 0 := by omega
    exact rcA_busy v 1
theorem mayR_A (v : List Int) (i : Nat) (hi : i < 4) (hv : 0 ≤ v.getD i 0) : mayR (rcA v i) = true := by
  unfold mayR
  rw [decide_eq_true_iff]
  have h1 : 0 ≤ (v.getD i 0) % 30 := Int.emod_nonneg _ (by decide)
  have h2 : (v.getD i 0) % 30 < 30 := Int.emod_lt_of_pos _ (by decide)
  exact ⟨by show 1 ≤ (i : Int) + 1; omega, by show (i : Int) + 1 ≤ _; omega, h1, by show (v.getD i 0) % 30 < 49; omega, by show 0 ≤ (i : Int); omega, by show (i : Int) < 8; omega⟩
def rsA (v : List Int) (n : Nat) : List Rc := (List.range n).map (rcA v)
theorem rsA_len (v : List Int) (n : Nat) : (rsA v n).length = n := by unfold rsA; rw [List.length_map, List.length_range]
theorem rsA_get (v : List Int) (n i : Nat) (h : i < n) : (rsA v n).getD i zr = rcA v i := by
  unfold rsA
  rw [List.getD_eq_getElem?_getD, List.getElem?_map, List.getElem?_range h]; rfl
theorem rsA_gr (v : List Int) (n : Nat) : ∀ j, j ≤ n → grQ 0 (rsA v n) j = (j : Int)
  | 0, _ => rfl
  | j + 1, h => by
    show max (grQ 0 (rsA v n) j) ((rsA v n).getD j zr).q = _
    rw [rsA_gr v n j (by omega), rsA_get v n j (by omega)]
    show max (j : Int) ((j : Int) + 1) = _
    omega
theorem rsA_sort (v : List Int) (n : Nat) (hn : n ≤ 4) : sortR (recI (fA v n) (4 * 2)) = rsA v n :=
  match n, hn with
  | 0, _ => by kernel_rfl
  | 1, _ => by kernel_rfl
  | 2, _ => by kernel_rfl
  | 3, _ => by kernel_rfl
  | 4, _ => by kernel_rfl

/-! ### what each object holds at the end -/
def wantC (v : List Int) (own : List Ob) : Nat → Nat → Nat → Int
  | 0 => fun i => (own.getD i ob0).l
  | i + 1 => if redB (tabO (fromN 2) own) 0 (rcA v i) = true then upd (wantC v own i) (rcA v i).d.toNat (upd (wantC v own i (rcA v i).d.toNat) (rcA v i).o.toNat (rcA v i).v) else wantC v own i
theorem wantC_red (v : List Int) (own : List Ob) (n : Nat) : ∀ i, i ≤ n → redC (tabO (fromN 2) own) 0 (rsA v n) (fun i => (own.getD i ob0).l) i = wantC v own i
  | 0, _ => rfl
  | i + 1, h => by
    show (if redB (tabO (fromN 2) own) 0 ((rsA v n).getD i zr) = true then _ else _) = _
    rw [rsA_get v n i (by omega), wantC_red v own n i (by omega)]; rfl
def wantO (v : List Int) (own : List Ob) (i : Nat) : List Ob := (List.range own.length).map fun j => ⟨(own.getD j ob0).k, (own.getD j ob0).v, wantC v own i j⟩
theorem wantO_len (v : List Int) (own : List Ob) (i : Nat) : (wantO v own i).length = own.length := by unfold wantO; rw [List.length_map, List.length_range]
theorem wantO_get (v : List Int) (own : List Ob) (i j : Nat) (h : j < own.length) : (wantO v own i).getD j ob0 = ⟨(own.getD j ob0).k, (own.getD j ob0).v, wantC v own i j⟩ := by
  unfold wantO
  rw [List.getD_eq_getElem?_getD, List.getElem?_map, List.getElem?_range h]; rfl
theorem wantO_zero (v : List Int) (own : List Ob) : wantO v own 0 = own := by
  refine List.ext_getElem? fun j => ?_
  unfold wantO
  rw [List.getElem?_map]
  by_cases h : j < own.length
  · rw [List.getElem?_range h, List.getElem?_eq_getElem h]
    show some (Ob.mk (own.getD j ob0).k (own.getD j ob0).v (own.getD j ob0).l) = _
    rw [List.getD_eq_getElem?_getD, List.getElem?_eq_getElem h]; rfl
  · rw [List.getElem?_eq_none (by rw [List.length_range]; omega), List.getElem?_eq_none (by omega)]; rfl
theorem redB_A (v : List Int) (own : List Ob) (i d : Nat) (hd : v.getD i 0 % 30 = (d : Int)) : redB (tabO (fromN 2) own) 0 (rcA v i) = true ↔ d < own.length ∧ (own.getD d ob0).k = 1 := by
  unfold redB
  rw [Bool.and_eq_true, decide_eq_true_iff, decide_eq_true_iff]
  have e : (rcA v i).d.toNat = d := by show (v.getD i 0 % 30).toNat = d; omega
  rw [e]
  have hq : (0 : Int) < (rcA v i).q := by show (0 : Int) < (i : Int) + 1; omega
  unfold tabO
  by_cases h : d < own.length
  · rw [if_pos h]
    exact ⟨fun q => ⟨h, q.2⟩, fun q => ⟨hq, q.2⟩⟩
  · rw [if_neg h]
    exact ⟨fun q => absurd q.2 (by show ¬ ((0 : Int) = 1); decide), fun q => absurd q.1 h⟩
theorem wantO_no (v : List Int) (own : List Ob) (i d : Nat) (hd : v.getD i 0 % 30 = (d : Int)) (h : ¬ (d < own.length ∧ (own.getD d ob0).k = 1)) : wantO v own (i + 1) = wantO v own i := by
  have : wantC v own (i + 1) = wantC v own i := if_neg fun q => h ((redB_A v own i d hd).1 q)
  unfold wantO; rw [this]
/-- Its cells, behind the store of a word. -/
theorem obsL_set (l : List Ob) (d o : Nat) (hd : d < l.length) (ho : o < 8) (z : Int) : obsL (l.set d ⟨(l.getD d ob0).k, (l.getD d ob0).v, upd (l.getD d ob0).l o z⟩) = (obsL l).set (d * 10 + 2 + o) (.int .u64 z) := by
  refine List.ext_getElem? fun m => ?_
  by_cases hm : m < l.length * 10
  · obtain ⟨a, b, hb, rfl⟩ : ∃ a b, b < 10 ∧ m = a * 10 + b := ⟨m / 10, m % 10, by omega, by omega⟩
    have ha : a < l.length := by omega
    rw [obsL_get _ a b (by rw [List.length_set]; exact ha) hb, List.getElem?_set]
    by_cases e : a = d
    · subst e
      have hx : (l.set a ⟨(l.getD a ob0).k, (l.getD a ob0).v, upd (l.getD a ob0).l o z⟩).getD a ob0 = ⟨(l.getD a ob0).k, (l.getD a ob0).v, upd (l.getD a ob0).l o z⟩ := by
        rw [List.getD_eq_getElem?_getD, List.getElem?_set_self ha]; rfl
      rw [hx]
      by_cases eb : b = 2 + o
      · subst eb
        rw [if_pos (by omega), if_pos (by rw [obsL_len]; omega)]
        unfold obC obV
        rw [Array.getElem?_toList, Array.getElem?_append_right (by simp), show 2 + o - (#[Value.int .i64 (l.getD a ob0).k, .int .i64 (l.getD a ob0).v] : Array Value).size = o by simp, lnV_get _ _ ho]
        show some (Value.int .u64 (upd (l.getD a ob0).l o z o)) = _
        rw [upd_same]
      · rw [if_neg (by omega), obsL_get _ a b ha hb]
        unfold obC obV
        rw [Array.getElem?_toList, Array.getElem?_toList]
        by_cases h2 : b < 2
        · rw [Array.getElem?_append_left (by simpa using h2), Array.getElem?_append_left (by simpa using h2)]
        · rw [Array.getElem?_append_right (by simp; omega), Array.getElem?_append_right (by simp; omega)]
          show (lnV _)[b - 2]? = (lnV _)[b - 2]?
          rw [lnV_get _ _ (by omega), lnV_get _ _ (by omega)]
          show some (Value.int .u64 (upd (l.getD a ob0).l o z (b - 2))) = _
          rw [upd_other _ _ _ _ (by omega)]
    · rw [if_neg (by omega), obsL_get _ a b ha hb]
      congr 2
      rw [List.getD_eq_getElem?_getD, List.getElem?_set_ne (fun h => e h.symm), List.getD_eq_getElem?_getD]
  · rw [List.getElem?_eq_none (by rw [obsL_len, List.length_set]; omega), List.getElem?_eq_none (by rw [List.length_set, obsL_len]; omega)]
theorem wantO_yes (v : List Int) (own : List Ob) (i d : Nat) (hi : i < 8) (hd : v.getD i 0 % 30 = (d : Int)) (h : d < own.length ∧ (own.getD d ob0).k = 1) :
    obsL (wantO v own (i + 1)) = (obsL (wantO v own i)).set (d * 10 + 2 + i) (.int .u64 (v.getD i 0)) := by
  rw [← obsL_set _ d i (by rw [wantO_len]; exact h.1) hi]
  congr 1
  have e : (rcA v i).d.toNat = d := by show (v.getD i 0 % 30).toNat = d; omega
  have : wantC v own (i + 1) = upd (wantC v own i) d (upd (wantC v own i d) i (v.getD i 0)) := by
    show (if redB (tabO (fromN 2) own) 0 (rcA v i) = true then upd (wantC v own i) (rcA v i).d.toNat (upd (wantC v own i (rcA v i).d.toNat) (rcA v i).o.toNat (rcA v i).v) else wantC v own i) = _
    rw [if_pos ((redB_A v own i d hd).2 h), e]; rfl
  refine List.ext_getElem? fun j => ?_
  by_cases hj : j < own.length
  · have g1 : (wantO v own (i + 1))[j]? = some ⟨(own.getD j ob0).k, (own.getD j ob0).v, wantC v own (i + 1) j⟩ := by unfold wantO; rw [List.getElem?_map, List.getElem?_range hj]; rfl
    rw [g1, this, wantO_get v own i d h.1, List.getElem?_set]
    by_cases ej : d = j
    · subst ej
      rw [if_pos rfl, if_pos (by rw [wantO_len]; exact hj), upd_same]
    · rw [if_neg ej]
      unfold wantO
      rw [List.getElem?_map, List.getElem?_range hj, upd_other _ _ _ _ (fun q => ej q.symm)]; rfl
  · rw [List.getElem?_eq_none (by rw [wantO_len]; omega), List.getElem?_eq_none (by rw [List.length_set, wantO_len]; omega)]

/-! ### the memory on the way -/
theorem bootM_ok {A : Mm} {B : Nat} (h : A.ok B) : (bootM A).ok (B + 8 * A.rs.length) := by
  unfold bootM
  split
  · split
    · rename_i he
      exact ok_mono (redP_ok (t := A.tb) (q := A.sq) (Mm.rs_inU h) (rd_ok h.2.1 he).1 h A.rs.length (Nat.le_refl _)).2.1 (by omega)
    · exact ok_mono h (by omega)
  · exact ok_mono h (by omega)
/-- Made an image, i records behind it. -/
structure AgI (own : List Ob) (v : List Int) (i : Nat) (A : Mm) : Prop where
  su : ∃ D, Su 128 A D
  im : Im 128 2 (tabO (fromN 2) own) (dirO (fromN 2 + cntO own)) (fun i => (own.getD i ob0).l) (fA v i) A
  ok : A.ok (376 + 11 * i)
theorem again_fmt (l : List Ob) (L : Nat) (hL : L ≤ 30) (hin : ∀ x ∈ l, ObIn x) (v : List Int) : (fmtP (Mm.new 128 fun _ _ => 0) 2 (ownO l L)).2 = 0 ∧ AgI (ownO l L) v 0 (fmtP (Mm.new 128 fun _ _ => 0) 2 (ownO l L)).1 := by
  have hlen : (ownO l L).length ≤ 30 := by unfold ownO; rw [List.length_map, List.length_take]; omega
  have hc := cnt_le (ownO l L)
  obtain ⟨F1, F2, F3⟩ := new_fmt 128 2 (by decide) (by decide) (ownO l L) (ownO_fmt l L hL) (by unfold fromN; omega)
  have KF := fmtP_okt (new0_ok 128 (by decide) (by decide)) 2 (ownO l L) (fun j i => by
    by_cases hj : j < (ownO l L).length
    · have : (ownO l L).getD j ob0 ∈ ownO l L := by rw [List.getD_eq_getElem?_getD, List.getElem?_eq_getElem hj]; exact List.getElem_mem hj
      exact (ownO_in hin L _ this).2.2 i
    · rw [List.getD_eq_getElem?_getD, List.getElem?_eq_none (by omega)]; show InU 0; exact ⟨by decide, by decide⟩)
  exact ⟨F1, F2, F3, ok_mono KF (by unfold fromN; omega)⟩
theorem AgI.next {own : List Ob} {v : List Int} {i : Nat} {A : Mm} (h : AgI own v i A) (hi : i < 4) (hv : InU (v.getD i 0)) : A.appE ((i % 2 : Nat) : Int) 0 (rcA v i) = 0 ∧ AgI own v (i + 1) (A.appZ ((i % 2 : Nat) : Int) 0 (rcA v i)) := by
  obtain ⟨D, hD⟩ := h.su
  have e : 2 + 4 * (i % 2) + i / 2 = atA i := rfl
  obtain ⟨a1, a2, a3⟩ := h.im.app hD (k := i % 2) (j := i / 2) (by omega) (by omega) 0 (mayR_A v i hi hv.1) (fA_no v i hi) (fA_busy v i hi)
  exact ⟨a1, ⟨_, a2⟩, a3, ok_mono (ok_appZ h.ok _ 0 _ ⟨hv.1, hv.2⟩) (by omega)⟩
/-- An image that may have lost its power, and came back or not. -/
structure AgB (own : List Ob) (v : List Int) (n B : Nat) (A : Mm) : Prop where
  im : Im 128 2 (tabO (fromN 2) own) (dirO (fromN 2 + cntO own)) (fun i => (own.getD i ob0).l) (fA v n) A
  ok : A.ok B
theorem AgI.fused {own : List Ob} {v : List Int} {n : Nat} {A : Mm} (h : AgI own v n A) (hn : n ≤ 4) (z : Int) (hz : In64 z) : AgB own v n 420 (A.fused z) ∧ (A.fused z).on = true := by
  obtain ⟨D, hD⟩ := h.su
  exact ⟨⟨h.im.fused z, ok_fused (ok_mono h.ok (by omega)) z hz⟩, hD.calm.1⟩
theorem AgB.rs {own : List Ob} {v : List Int} {n B : Nat} {A : Mm} (h : AgB own v n B A) (hn : n ≤ 4) (hon : A.on = true) : A.rs = rsA v n ∧ A.rs.length = n := by
  have e := (h.im.scanned hon).trans (rsA_sort v n hn)
  exact ⟨e, by rw [e, rsA_len]⟩
theorem AgB.crash {own : List Ob} {v : List Int} {n B : Nat} {A : Mm} (h : AgB own v n B A) (keep : List Int) : AgB own v n B (A.crash keep) ∧ Calm (A.crash keep) := ⟨⟨h.im.crash keep, ok_crash h.ok keep⟩, rfl, rfl⟩
theorem AgB.booted {own : List Ob} {v : List Int} {n B : Nat} {A : Mm} (h : AgB own v n B A) (hn : n ≤ 4) (hon : A.on = true) : AgB own v n (B + 32) (bootM A) :=
  ⟨h.im.booted, ok_mono (bootM_ok h.ok) (by have := (h.rs hn hon).2; omega)⟩
theorem AgB.boot {own : List Ob} {v : List Int} {n B : Nat} {A : Mm} (h : AgB own v n B A) (hn : n ≤ 4) (hl : own.length ≤ 30) (hc : Calm A) :
    bootE A = 0 ∧ bootN A = (n : Int) + 1 ∧ A.rs.length = n ∧ Ic 128 2 (tabO (fromN 2) own) (dirO (fromN 2 + cntO own)) (wantC v own n) 0 (bootS A) (bootM A) := by
  have hr : A.rs = rsA v n := (h.im.scanned hc.1).trans (rsA_sort v n hn)
  have hrl : A.rs.length = n := by rw [hr, rsA_len]
  obtain ⟨b1, b2, b3, b4, b5, b6⟩ := h.im.boot hc (by rw [hrl]; unfold fromN; omega)
  refine ⟨b1, ?_, hrl, ?_⟩
  · unfold bootN
    rw [hr, b6]
    rw [rsA_len, rsA_gr v n n (Nat.le_refl _)]
  · rw [hrl, hr, wantC_red v own n n (Nat.le_refl _)] at b3
    exact b3
theorem Ic.told {own : List Ob} {v : List Int} {n : Nat} {S : Sto} {A : Mm} {d : Nat → Int} {m : Nat} (h : Ic 128 2 (tabO (fromN 2) own) d (wantC v own n) m S A) (hk : ∀ x ∈ own, x.k ≠ 0) (i : Nat) (hi : i < 49) :
    (i < own.length → getT S A (i : Int) = .tuple #[.agg (obV ((wantO v own n).getD i ob0).k ((wantO v own n).getD i ob0).v ((wantO v own n).getD i ob0).l), .int .i64 0]) ∧ (own.length ≤ i → getT S A (i : Int) = .tuple #[.agg (obV 0 0 fun _ => 0), .int .i64 30]) := by
  obtain ⟨h1, h2⟩ := h.get i hi
  constructor
  · intro hl
    have ek : (tabO (fromN 2) own i).k = (own.getD i ob0).k ∧ (tabO (fromN 2) own i).v = (own.getD i ob0).v := by unfold tabO; rw [if_pos hl]; exact ⟨rfl, rfl⟩
    have hne : (tabO (fromN 2) own i).k ≠ 0 := by
      rw [ek.1]
      exact hk _ (by rw [List.getD_eq_getElem?_getD, List.getElem?_eq_getElem hl]; exact List.getElem_mem hl)
    obtain ⟨g1, g2⟩ := h1 hne
    unfold getT
    rw [g1, g2, ek.1, ek.2, wantO_get v own n i hl]
  · intro hl
    have ek : (tabO (fromN 2) own i).k = 0 := by unfold tabO; rw [if_neg (by omega)]; rfl
    obtain ⟨g1, g2⟩ := h2 ek
    unfold getT
    rw [g1, g2]

end Go.Proofs.YtiafhcgaikapcaaGreat
