
/-
  For every kind and every number, ObjectsAgain returns true: a number that ended is given again, of another version; what was named is named no more. No condition.
-/
import Derived.Test.YtjmgmbigbkllgabOHead
import Derived.Test.YtjmgmbigbkllgabOArgs
import Derived.Test.YtjmgmbigbkllgabONames
import Derived.Test.YtjmgmbigbkllgabLaw
import Derived.Test.YtjmgmbigbkllgabRows
namespace Go.Proofs.Ytjmgmbigbkllgab.objectsAgain
open Go.ChangeShapes Go.WideShapes Go.ChangeAt Go.RowKit Go.Joins
set_option linter.unusedVariables false
set_option linter.unusedSimpArgs false
set_option maxRecDepth 100000

/-- The store behind i ends; with the object made; the memory; the capability's word. -/
def agS (i : Nat) : Sto := (sS 0 100).withW 0 ⟨0, i, 0⟩
def agT (z : Int) (i : Nat) : Sto := (sS 0 100).took.withW 0 ⟨z, i, 18⟩
def agN (z : Int) (A : Mm) (i : Nat) : Mm := (agS i).makeM A z
def agM (z : Int) : Nat → Mm
  | 0 => sA 100
  | i + 1 => (agT z i).setM (agN z (agM z i) i) 0 3 9
def agW (z : Int) : Nat → Int
  | 0 => 0
  | i + 1 => wordC ⟨z, 0, 0, i, 0⟩
theorem ag0 : (sS 0 100).F.allocE = 0 ∧ (sS 0 100).F.allocV = 18 ∧ (sS 0 100).own 18 = true ∧ (sS 0 100).w 0 = ⟨0, 0, 0⟩ := by decide +kernel
theorem turn_back {F : Fr} (h : F.allocE = 0) : F.allocA.turnA F.allocV 1 0 = F := by
  obtain ⟨i, e1, e2, e3, e4, e5, _⟩ := alloc_spec h
  rw [e5, e1]
  unfold Fr.turnA
  rw [st_nat]
  rw [if_pos (show (if (F.put i 1).lo ≤ i ∧ i < (F.put i 1).hi then (F.put i 1).s i else -1) = 1 by
    rw [if_pos ⟨e2, e3⟩]; exact upd_same _ _ _)]
  rw [Int.toNat_natCast]
  cases F with
  | mk lo hi s =>
    unfold Fr.put
    congr 1
    funext j
    by_cases hj : j = i
    · subst hj; rw [upd_same]; exact e4.symm
    · show upd (upd s i 1) i 0 j = s j
      rw [upd_other _ _ _ _ hj, upd_other _ _ _ _ hj]
theorem upd_upd {α : Type} (f : Nat → α) (k : Nat) (u v : α) : upd (upd f k u) k v = upd f k v := by
  funext j
  by_cases hj : j = k
  · subst hj; rw [upd_same, upd_same]
  · rw [upd_other _ _ _ _ hj, upd_other _ _ _ _ hj, upd_other _ _ _ _ hj]
theorem agS_zero : agS 0 = sS 0 100 := by
  have h := ag0.2.2.2
  unfold agS Sto.withW
  rw [show ((⟨0, (0 : Nat), 0⟩ : En)) = (sS 0 100).w 0 from h.symm]
  rw [show upd (sS 0 100).w 0 ((sS 0 100).w 0) = (sS 0 100).w from funext fun j => by
    by_cases hj : j = 0
    · subst hj; rw [upd_same]
    · rw [upd_other _ _ _ _ hj]]
theorem ag_w (i : Nat) : (agS i).w 0 = ⟨0, i, 0⟩ := by show upd (sS 0 100).w 0 ⟨0, i, 0⟩ 0 = _; rw [upd_same]
theorem at_w (z : Int) (i : Nat) : (agT z i).w 0 = ⟨z, i, 18⟩ := by show upd (sS 0 100).took.w 0 ⟨z, i, 18⟩ 0 = _; rw [upd_same]
theorem agS_ok (i : Nat) (hi : i < 22) : (agS i).ok := withW_ok (sS_ok 0 100 (by decide) (by decide)) _ _ ⟨by show (0 : Int) ≤ (i : Int); omega, by show (i : Int) ≤ 16777215; omega⟩
theorem agT_ok (z : Int) (i : Nat) (hi : i < 22) : (agT z i).ok := withW_ok (took_ok (sS_ok 0 100 (by decide) (by decide))) _ _ ⟨by show (0 : Int) ≤ (i : Int); omega, by show (i : Int) ≤ 16777215; omega⟩
theorem ag_next (z : Int) (hz : mkB z = true) (i : Nat) (hi : i < 22) : (agS i).nextE z = 0 ∧ (agS i).nextI z = 0 ∧ (agS i).nextV z = (i : Int) := by
  have hx : (agS i).nx = some 0 := nx_some (by decide) (by rw [ag_w]; unfold opB; exact decide_eq_true ⟨rfl, by show (i : Int) < 16777215; omega⟩) (fun j hj => by omega)
  unfold Sto.nextE Sto.nextI Sto.nextV
  rw [if_pos hz, if_pos hz, if_pos hz, hx]
  exact ⟨rfl, rfl, by show ((agS i).w 0).v = _; rw [ag_w]⟩
theorem agN_is (z : Int) (hz : mkB z = true) (A : Mm) (i : Nat) (hi : i < 22) : agN z A i = (agS i).layM A zeroL := if_pos (ag_next z hz i hi).1
theorem made_ok {S : Sto} {A : Mm} {B : Nat} (h : A.ok B) (z : Int) : (S.makeM A z).ok (B + 8) := makeM_ok h z
theorem agM_n (z : Int) : ∀ i, (agM z i).n = 100
  | 0 => rfl
  | i + 1 => (setM_n _ _ _ _ _).trans ((makeM_n _ _ _).trans (agM_n z i))
theorem agM_ok (z : Int) : ∀ i, (agM z i).ok (16 * i)
  | 0 => sA_ok 100 (by decide) (by decide)
  | i + 1 => ok_mono (setM_ok (made_ok (agM_ok z i) z) _ _ _ ⟨by decide, by decide⟩) (by omega)
theorem agN_n (z : Int) (i : Nat) : (agN z (agM z i) i).n = 100 := (makeM_n _ _ _).trans (agM_n z i)
theorem agN_calm (z : Int) (hz : mkB z = true) (i : Nat) (hi : i < 22) (A : Mm) (hc : Calm A) (hn : A.n = 100) : Calm (agN z A i) ∧ (∀ j, j < 8 → (agN z A i).hasZ 18 j = 0) ∧ (agS i).layE A zeroL = 0 := by
  have hF : (agS i).F.allocV = 18 := ag0.2.1
  obtain ⟨q1, q2, q3, q4⟩ := lay_calm (S := agS i) (A := A) hc ag0.1 (by rw [hF]; exact ⟨by decide, by rw [hn]; decide⟩) zeroL
  rw [agN_is z hz A i hi]
  refine ⟨q2, fun j hj => ?_, q1⟩
  have := q4 j hj
  rw [hF] at this
  rw [this]; rfl
theorem ag_find (z : Int) (hz : mkB z = true) (i : Nat) : (agT z i).findE 0 = 0 := by
  unfold Sto.findE
  rw [if_pos ⟨by decide, by decide⟩]
  show (if ((agT z i).w 0).k = 0 then (30 : Int) else 0) = 0
  rw [at_w]
  have := (mkB_iff z).1 hz
  rw [if_neg (by show ¬ z = 0; omega)]
theorem ag_line (z : Int) (i : Nat) : (agT z i).line 0 = 18 := by show ((agT z i).w 0).l = 18; rw [at_w]
theorem own_put (S : Sto) (j : Nat) (x : En) (y : Int) : (S.took.withW j x).own y = S.own y := rfl
theorem ag_own (z : Int) (i : Nat) : (agT z i).own ((agT z i).line 0) = true := by rw [ag_line]; unfold agT; rw [own_put]; exact ag0.2.2.1
theorem ag_set1 (z : Int) (hz : mkB z = true) (i : Nat) (hi : i < 22) (h2 : Calm (agN z (agM z i) i)) : (agT z i).setS (agN z (agM z i) i) 0 3 9 = agT z i ∧ agM z (i + 1) = (agN z (agM z i) i).storeZ 18 3 9 := by
  have := set_again (S := agT z i) (A := agN z (agM z i) i) (z := 0) (q := 3) h2 ⟨by decide, by decide⟩ (ag_find z hz i) (ag_own z i) (by rw [ag_line]; exact ⟨by decide, by rw [agN_n]; decide⟩) 9
  refine ⟨this.2.1, this.2.2.trans ?_⟩
  rw [ag_line]
theorem agM_calm (z : Int) (hz : mkB z = true) : ∀ i, i < 22 → Calm (agM z i)
  | 0, _ => by show Calm (sA 100); exact calm_new _ _
  | i + 1, hi => by
    have ih := agN_calm z hz i (by omega) _ (agM_calm z hz i (by omega)) (agM_n z i)
    rw [(ag_set1 z hz i (by omega) ih.1).2]
    exact calm_store ih.1 _ _ _
theorem ag_make (z : Int) (hz : mkB z = true) (i : Nat) (hi : i < 22) : (agS i).makeS (agM z i) z = agT z i ∧ (agS i).makeE (agM z i) z = 0 ∧ (agS i).makeI (agM z i) z = 0 := by
  obtain ⟨n1, n2, n3⟩ := ag_next z hz i hi
  have h4 := (agN_calm z hz i hi _ (agM_calm z hz i hi) (agM_n z i)).2.2
  have e : (agS i).makeE (agM z i) z = 0 := by unfold Sto.makeE; rw [if_pos n1]; exact h4
  refine ⟨?_, e, by unfold Sto.makeI; rw [if_pos e, n2]⟩
  unfold Sto.makeS
  rw [if_pos n1, if_pos h4, n2, n3]
  show Sto.mk _ (upd (upd _ 0 _) 0 ⟨z, (i : Int), (sS 0 100).F.allocV⟩) _ _ _ _ = _
  rw [ag0.2.1, upd_upd]; rfl
theorem ag_get (z : Int) (hz : mkB z = true) (i : Nat) (hi : i < 22) : getT (agT z i) (agN z (agM z i) i) 0 = .tuple #[.agg (obV z (i : Int) zeroL), .int .i64 0] := by
  obtain ⟨h2, h3, _⟩ := agN_calm z hz i hi _ (agM_calm z hz i hi) (agM_n z i)
  have hg : (agT z i).getE (agN z (agM z i) i) 0 = 0 := by
    unfold Sto.getE
    rw [if_pos (ag_find z hz i), ag_line]
    exact calm_loadE h2 ⟨by decide, by rw [agN_n]; decide⟩
  have e : (agT z i).getV (agN z (agM z i) i) 0 = obV z (i : Int) zeroL := by
    unfold Sto.getV
    rw [if_pos hg, show (0 : Int).toNat = 0 from rfl, at_w, ag_line]
    unfold obV
    rw [show lnV ((agN z (agM z i) i).hasZ 18) = lnV zeroL from tab_ext fun j hj => by rw [h3 j hj]; rfl]
  unfold getT
  rw [e, hg]
theorem ag_set (z : Int) (hz : mkB z = true) (i : Nat) (hi : i < 22) : (agT z i).setS (agN z (agM z i) i) 0 3 9 = agT z i := (ag_set1 z hz i hi (agN_calm z hz i hi _ (agM_calm z hz i hi) (agM_n z i)).1).1
theorem ag_end (z : Int) (hz : mkB z = true) (i : Nat) (hi : i < 22) : (agT z i).endS 0 = agS (i + 1) := by
  unfold Sto.endS
  rw [if_pos (ag_find z hz i)]
  have e1 : (agT z i).endF 0 = (sS 0 100).F := by
    unfold Sto.endF
    rw [if_pos (ag_own z i), ag_line]
    have := turn_back ag0.1
    rw [ag0.2.1] at this
    exact this
  rw [e1]
  show Sto.mk _ (upd (upd _ 0 _) 0 (endV ((agT z i).w 0))) _ _ _ _ = _
  rw [at_w, upd_upd]
  have := (mkB_iff z).1 hz
  rw [show endV ⟨z, (i : Int), 18⟩ = ⟨0, ((i + 1 : Nat) : Int), 0⟩ by
    unfold endV nextI
    rw [if_neg (by show ¬ z = 0; omega), if_neg (by show ¬ (i : Int) = 16777215; omega)]
    simp]
  rfl
theorem ag_may (z : Int) (hz : mkB z = true) (i : Nat) (hi : i < 22) : mayC ⟨z, 0, 0, (i : Int), 0⟩ = true := by
  have := (mkB_iff z).1 hz
  rw [mayC_iff]
  show 1 ≤ z ∧ z ≤ 6 ∧ (0 : Int) ≤ 0 ∧ (0 : Int) ≤ 15 ∧ (0 : Int) ≤ 0 ∧ (0 : Int) < 49 ∧ (0 : Int) ≤ (i : Int) ∧ (i : Int) ≤ 16777215 ∧ (0 : Int) ≤ 0 ∧ (0 : Int) ≤ 65535 ∧ (5 ≤ z → (0 : Int) = 0 ∧ (i : Int) = 0)
  refine ⟨by omega, by omega, by omega, by omega, by omega, by omega, by omega, by omega, by omega, by omega, fun h => ?_⟩
  omega
theorem ag_names (z : Int) (hz : mkB z = true) (i : Nat) (hi : i < 22) : (agT z i).nameE (wordC ⟨z, 0, 0, (i : Int), 0⟩) = 0 ∧ (agT z i).nameI (wordC ⟨z, 0, 0, (i : Int), 0⟩) = 0 := by
  have hm := ag_may z hz i hi
  have hk := (mkB_iff z).1 hz
  have e : (agT z i).nameE (wordC ⟨z, 0, 0, (i : Int), 0⟩) = 0 := by
    unfold Sto.nameE
    rw [if_pos (isC_word _ hm)]
    unfold namE
    rw [ofC_word _ hm, if_pos ⟨isC_word _ hm, by show z ≠ 5; omega, by show z ≠ 6; omega⟩]
    show (if (0 : Int) = 0 then (if (i : Int) = ((agT z i).w 0).v then (if ((agT z i).w 0).k = 0 then (30 : Int) else if z = ((agT z i).w 0).k then 0 else 31) else 33) else 30) = 0
    rw [at_w, if_pos rfl, if_pos rfl]
    show (if z = 0 then (30 : Int) else if z = z then 0 else 31) = 0
    rw [if_neg (by omega), if_pos rfl]
  exact ⟨e, by unfold Sto.nameI; rw [if_pos e, ofC_word _ hm]⟩
theorem ag_old (z : Int) (hz : mkB z = true) (i : Nat) (hi : i < 22) : (agT z i).nameE (agW z i) ≠ 0 := by
  have hk := (mkB_iff z).1 hz
  match i with
  | 0 =>
    show (agT z 0).nameE 0 ≠ 0
    unfold Sto.nameE
    rw [if_neg (by decide)]; decide
  | i + 1 =>
    have hm := ag_may z hz i (by omega)
    show (agT z (i + 1)).nameE (wordC ⟨z, 0, 0, (i : Int), 0⟩) ≠ 0
    unfold Sto.nameE
    rw [if_pos (isC_word _ hm)]
    unfold namE
    rw [ofC_word _ hm, if_pos ⟨isC_word _ hm, by show z ≠ 5; omega, by show z ≠ 6; omega⟩]
    show (if (0 : Int) = 0 then (if (i : Int) = ((agT z (i + 1)).w 0).v then (if ((agT z (i + 1)).w 0).k = 0 then (30 : Int) else if z = ((agT z (i + 1)).w 0).k then 0 else 31) else 33) else 30) ≠ 0
    rw [at_w, if_pos rfl]
    show (if (i : Int) = ((i + 1 : Nat) : Int) then _ else (33 : Int)) ≠ 0
    rw [if_neg (by omega)]; decide
theorem agW_bd (z : Int) (hz : mkB z = true) (i : Nat) (hi : i < 22) : 0 ≤ agW z i ∧ agW z i ≤ 18446744073709551615 := by
  match i with
  | 0 => exact ⟨by show (0 : Int) ≤ 0; decide, by show (0 : Int) ≤ 18446744073709551615; decide⟩
  | i + 1 =>
    have := wordC_bd _ (ag_may z hz i (by omega))
    exact ⟨by show 0 ≤ wordC _; omega, this.2⟩

theorem wpList_build03 {P : Program} {ops : Array Oper} {rest : List Oper} {o : Oper} {a : Act} {w : World} {Q : Exit → Act → World → Prop} (hg : o.guard = none) (t : TypeId) (x y : Operand) (ho : o.op = .build t #[(0, x), (3, y)]) (u v : Value) (hx : a.eval x = u) (hy : a.eval y = v) (cs : Array Value)
    (hb : P.built t [(0, u), (3, v)] = some cs) (h : wpList P ops Q rest (a.put o.dst (.agg cs)) w) : wpList P ops Q (o :: rest) a w := by
  subst hx hy
  exact wpList_build hg t #[(0, x), (3, y)] ho (by simp [hb]) (by simpa [hb] using h)
def whatZ (k : Nat) : Int := if k = 0 then 1 else if k = 1 then 2 else 4
theorem what_may : ∀ k : Nat, k < 3 → mkB (whatZ k) = true := by decide
theorem what_cell : ∀ k : Nat, k < 3 → (#[.int .i64 1, .int .i64 2, .int .i64 4] : Array Value)[k]? = some (.int .i64 (whatZ k)) := by
  intro k hk
  rcases (show k = 0 ∨ k = 1 ∨ k = 2 by omega) with rfl | rfl | rfl <;> rfl

set_option maxHeartbeats 8000000 in
theorem walk (k n : Int) (wk : (Lit.int .i64 k).wf = true) (wn : (Lit.int .i64 n).wf = true) (W : World) :
    Calls Try.prog 3 #[.int .i64 k, .int .i64 n] W fun e W' => e = .returned (.bool true) ∧ Below W.heap.size W W' := by
  have hk : In64 k := in64_wf wk
  have hn : In64 n := in64_wf wn
  have K3 := hide (okind_any k hk 3 (by decide) (by decide))
  have h3 := kindN_lt k 3 (by decide)
  obtain ⟨k3, hk3⟩ : ∃ k3, k3 = kindN k 3 := ⟨_, rfl⟩
  rw [← hk3] at K3 h3
  have KN := hide (okind_any n hn 21 (by decide) (by decide))
  have hn21 : kindN n 21 < 21 := kindN_lt n 21 (by decide)
  obtain ⟨n21, hn1⟩ : ∃ n21, n21 = kindN n 21 := ⟨_, rfl⟩
  rw [← hn1] at KN hn21
  clear hk3 hn1 hk hn wk wn
  obtain ⟨z, hz⟩ : ∃ z, z = whatZ k3 := ⟨_, rfl⟩
  have HZ : Hid (mkB z = true) := by rw [hz]; exact what_may k3 h3
  have CZ : Hid ((#[.int .i64 1, .int .i64 2, .int .i64 4] : Array Value)[k3]? = some (.int .i64 z)) := by rw [hz]; exact what_cell k3 h3
  clear hz
  go_enter Try.func3, Try.ntmps3
  go_wp2_with fail
  refine (oshown_any W).mono ?_
  rintro e w0 ⟨rfl, hk0⟩
  have HK0 := hide hk0
  clear hk0
  go_wp2_with fail
  refine (new_any w0 100 (by decide) (by decide)).mono ?_
  intro e w1 hm
  obtain ⟨m, rfl, h0, -⟩ := made_has W (unhide HK0) hm (fun _ => False) (fun _ h => h.elim)
  have H0 : Hid (Has W w1 (fun _ => False) m (sA 100)) := h0
  have T0 : Hid (Stay W (fun w G => Has W w G m (sA 100))) := Has.stay W m _
  clear hm h0 HK0
  go_wp2_with fail
  refine (table_any 0 (by decide) w1).mono ?_
  rintro e w2 ⟨rfl, hb⟩
  have H1 : Hid (Has W w2 (fun _ => False) m (sA 100)) := (unhide T0).bl _ _ _ (unhide H0) (Keeps.of_below hb)
  clear hb H0
  go_wp2_with fail
  refine (dir_any w2).mono ?_
  rintro e w3 ⟨rfl, hb⟩
  have H2 : Hid (Has W w3 (fun _ => False) m (sA 100)) := (unhide T0).bl _ _ _ (unhide H1) (Keeps.of_below hb)
  clear hb H1 T0
  go_wp2_with fail
  refine (sof_tbl 0 100 (by decide) (by decide) (by decide) w3 _ (unhide H2)).mono ?_
  rintro e w4 ⟨b, rfl, h1, -⟩
  have HS : Hid (SHas W m b (fun A w G => Has W w G m A) (sS 0 100) (sA 100) w4 (fun _ => False)) := h1
  clear h1 H2
  have M := hide (Has.memL W m)
  go_wp2_with fail
  have O0 := hide ((Held.start (SHas.stay (unhide M) b _ _) (unhide HS)).alloc (SHas.stay (unhide M) b _ _) (.cells #[.int .i64 1, .int .i64 2, .int .i64 4] 3))
  clear HS
  obtain ⟨g, hg⟩ : ∃ g, g = w4.heap.size := ⟨_, rfl⟩
  rw [← hg] at O0 ⊢
  generalize w4.alloc (.cells #[.int .i64 1, .int .i64 2, .int .i64 4] 3) = w5 at *
  clear hg
  refine (unhide K3 _).mono ?_
  rintro e w5 ⟨rfl, rfl⟩
  have cg : w5.cell? ⟨g, k3, none⟩ = some (.int .i64 z) := by rw [cell_of_block ((unhide O0).at g (.cells #[.int .i64 1, .int .i64 2, .int .i64 4] 3) (by simp))]; exact unhide CZ
  have hk3 : (k3 : Int) < 3 := by omega
  clear K3 CZ
  go_upto_region 10 with fail
  clear cg
  have H0 : Hid (SHas W m b (fun A w G => Has W w G m A) (agS 0) (agM z 0) w5 (fun _ => False)) := by
    show SHas _ _ _ _ _ _ _ _
    rw [agS_zero]
    exact ((unhide O0).done (SHas.stay (unhide M) b _ _) (.bool true)).2.1
  clear O0
  generalize (k3 : Int) = kk at *
  have n22 : n21 < 22 := by omega
  go_wp2_with fail
  go_loopw [11, 12, 13, 14, 15, 16, 17, 18, 19, 20, 21, 22] (fun o q _ _ _ _ _ _ _ _ _ _ wr => ∃ j : Nat, j ≤ n21 ∧ q = .int .i64 j ∧ o = .int .u64 (agW z j) ∧ SHas W m b (fun A w G => Has W w G m A) (agS j) (agM z j) wr (fun _ => False)) (fun _ q _ _ _ _ _ _ _ _ _ _ _ => n21 - (intOf q).toNat)
  case atStart => exact ⟨0, by omega, rfl, rfl, unhide H0⟩
  case round =>
    clear H0
    obtain ⟨j, hj, rfl, rfl, hh⟩ := hrel
    have HH := hide hh
    clear hh
    go_wp2_with fail
    refine (unhide KN _).mono ?_
    rintro e wr ⟨rfl, rfl⟩
    by_cases hlt : j < n21
    · have hlt' : (j : Int) < (n21 : Int) := by omega
      have hj22 : j < 22 := by omega
      have MK := ag_make z (unhide HZ) j hj22
      have NN := ag_names z (unhide HZ) j hj22
      have NO := ag_old z (unhide HZ) j hj22
      have CM := hide (make_any (unhide M) (unhide HH) (agS_ok j hj22) (ok_mono (agM_ok z j) (by omega)) z)
      rw [MK.1, MK.2.1, MK.2.2] at CM
      have A1n : (agN z (agM z j) j).n ≤ 1024 := by rw [agN_n]; decide
      have CG := hide (fun w G (h : SHas W m b (fun A w G => Has W w G m A) (agT z j) (agN z (agM z j) j) w G) => get_any (unhide M) h A1n 0)
      rw [ag_get z (unhide HZ) j hj22] at CG
      have BW := agW_bd z (unhide HZ) j hj22
      have BW2 := wordC_bd _ (ag_may z (unhide HZ) j hj22)
      have CN1 := hide (fun w (h : SRep m (agT z j) w b) => onames_any h (agW z j) BW.1 BW.2)
      have CN2 := hide (fun w (h : SRep m (agT z j) w b) => onames_any h (wordC ⟨z, 0, 0, (j : Int), 0⟩) (by omega) BW2.2)
      rw [NN.1, NN.2] at CN2
      have CW := hide (word5 z 0 0 (j : Int) 0)
      rw [wordV_may _ (ag_may z (unhide HZ) j hj22), wordE_may _ (ag_may z (unhide HZ) j hj22)] at CW
      have CS := hide (fun w G (h : SHas W m b (fun A w G => Has W w G m A) (agT z j) (agN z (agM z j) j) w G) => set_any (unhide M) h (agT_ok z j hj22) (ok_mono (made_ok (agM_ok z j) z) (by omega)) 0 3 9 ⟨by decide, by decide⟩)
      rw [ag_set z (unhide HZ) j hj22] at CS
      have CE := hide (fun w G (h : SHas W m b (fun A w G => Has W w G m A) (agT z j) (agM z (j + 1)) w G) => end_obj (unhide M) h (agT_ok z j hj22) 0)
      rw [ag_end z (unhide HZ) j hj22, ag_find z (unhide HZ) j] at CE
      have AW : Hid (agW z (j + 1) = wordC ⟨z, 0, 0, (j : Int), 0⟩) := rfl
      have EM : Hid ((agT z j).setM (agN z (agM z j) j) 0 3 9 = agM z (j + 1)) := rfl
      rw [unhide EM] at CS
      have EN : Hid ((agS j).makeM (agM z j) z = agN z (agM z j) j) := rfl
      rw [unhide EN] at CM
      have TT := hide (SHas.stay (unhide M) b (agT z j) (agN z (agM z j) j))
      have TU := hide (SHas.stay (unhide M) b (agT z j) (agM z (j + 1)))
      have hne : ((agT z j).nameE (agW z j) == 0) = false := by simpa using NO
      clear MK NN NO A1n BW BW2 EM EN
      obtain ⟨A2, hA2⟩ : ∃ A2, A2 = agM z (j + 1) := ⟨_, rfl⟩
      rw [← hA2] at CS CE TU
      have HA2 := hide hA2
      clear hA2
      generalize agN z (agM z j) j = A1 at *
      generalize agM z j = A0 at *
      generalize wordC ⟨z, 0, 0, (j : Int), 0⟩ = wd at *
      generalize (agT z j).nameE (agW z j) = ne at *
      generalize (agT z j).nameI (agW z j) = ni at *
      generalize (agT z j).setE A1 0 3 9 = es at *
      have RO : Hid (∀ i, i < 8 → (obV z (j : Int) zeroL)[2 + i]? = some (.int .u64 (zeroL i))) := fun i hi => obV_cell _ _ _ i hi
      have RV : Hid ((obV z (j : Int) zeroL)[1]? = some (.int .i64 (j : Int))) := by show _ = _; unfold obV; rfl
      have s10 := s10_ob z (j : Int) zeroL
      have X10 := hide (obV_one z (j : Int) zeroL)
      have Z10 := hide zero_ob
      have SZ10 : Hid ((obV 0 0 fun _ => 0).size = (obV z (j : Int) zeroL).size) := by show _ = _; rw [obV_size, obV_size]
      generalize (obV 0 0 fun _ => 0) = ZO at *
      generalize obV z (j : Int) zeroL = VO at *
      have BC : Hid (Try.prog.built 51 [(0, .int .i64 z), (3, .int .i64 (j : Int))] = some #[.int .i64 z, .int .i64 0, .int .i64 0, .int .i64 (j : Int), .int .i64 0]) := by show _ = _; kernel_rfl
      go_wp2_with fail
      refine (unhide CM).mono ?_
      rintro e w6 ⟨rfl, h1, h2⟩
      have O1 := hide (Held.start (unhide TT) h1)
      clear h1 h2 CM HH
      go_wp2_with fail
      refine (unhide CG _ _ (unhide O1).st).mono ?_
      rintro e w7 ⟨rfl, h1, h2⟩
      have O2 := hide (((unhide O1).call (St' := SHas W m b (fun A w G => Has W w G m A) (agT z j) A1) h1 h2).alloc (unhide TT) (.cells VO 44))
      clear h1 h2 O1 CG
      go_upto_region 15 with (first | (with_reducible refine wpList_allocZ (by with_unfolding_all rfl) 44 (by with_unfolding_all rfl) ZO (unhide Z10) ?_) | (with_reducible refine wpList_store_row (by with_unfolding_all rfl) 44 _ _ (by with_unfolding_all rfl) w7.heap.size VO (by with_unfolding_all rfl) (by with_unfolding_all rfl) 44 ZO (heap_new w7 _) s10 (unhide SZ10) (unhide X10) ?_; rw [setRow_alloc]))
      obtain ⟨g14, hg14⟩ : ∃ g14, g14 = w7.heap.size := ⟨_, rfl⟩
      rw [← hg14] at O2 ⊢
      clear hg14
      generalize w7.alloc (.cells VO 44) = w8 at *
      have r14 : w8.rangeAt g14 2 (lnV zeroL).toList := fun i v hv => by
        have hi : i < 8 := by
          rcases Nat.lt_or_ge i 8 with h' | h'
          · exact h'
          · rw [Array.getElem?_toList, Array.getElem?_eq_none (by rw [lnV_size]; exact h')] at hv; cases hv
        rw [Array.getElem?_toList, lnV_get _ _ hi] at hv
        rw [cell_of_block ((unhide O2).at g14 (.cells VO 44) (by simp)), unhide RO i hi]; exact hv
      have c14 : w8.cell? ⟨g14, 1, none⟩ = some (.int .i64 (j : Int)) := by rw [cell_of_block ((unhide O2).at g14 (.cells VO 44) (by simp))]; exact unhide RV
      have R14 := hide r14
      have s8 : (Try.prog.info? 42).map (·.size) = some (lnV zeroL).toList.length := by rw [Array.length_toList]; exact s8_ln _
      have EQ : Hid (eqL zeroL zeroL = true) := eqL_refl _
      clear r14 RO RV s10 X10 Z10 SZ10
      go_upto_region 17 with (first | (refine wpList_load_mid_w (by rfl) 42 _ rfl g14 2 rfl (lnV zeroL).toList _ (unhide R14) Try.underlying42 rfl s8 ?_) | (refine wpList_buildL (by rfl) _ rfl zeroL build_zl ?_) | (refine wpList_neq (by rfl) (.tmp 77) (.tmp 78) rfl zeroL zeroL rfl rfl ?_; rw [unhide EQ]))
      clear R14 c14 EQ s8
      go_wp2_with fail
      refine (unhide CN1 _ (unhide O2).st.rep).mono ?_
      rintro e w9 ⟨rfl, hb⟩
      have O3 := hide ((unhide O2).below (unhide TT) hb)
      clear hb O2 CN1
      go_wp2_with (with_reducible refine wpList_build03 (by with_unfolding_all rfl) 51 _ _ (by with_unfolding_all rfl) (.int .i64 z) (.int .i64 (j : Int)) (by with_unfolding_all rfl) (by with_unfolding_all rfl) _ (unhide BC) ?_)
      refine (unhide CW _).mono ?_
      rintro e w10 ⟨rfl, hb⟩
      have O4 := hide ((unhide O3).below (unhide TT) hb)
      clear hb O3 CW BC
      go_wp2_with fail
      refine (unhide CN2 _ (unhide O4).st.rep).mono ?_
      rintro e w11 ⟨rfl, hb⟩
      have O5 := hide ((unhide O4).below (unhide TT) hb)
      clear hb O4 CN2
      go_wp2_with fail
      refine (unhide CS _ _ (unhide O5).st).mono ?_
      rintro e w12 ⟨rfl, h1, h2⟩
      have O6 := hide ((unhide O5).call (St' := SHas W m b (fun A w G => Has W w G m A) (agT z j) A2) h1 h2)
      clear h1 h2 O5 CS
      go_wp2_with fail
      refine (unhide CE _ _ (unhide O6).st).mono ?_
      rintro e w13 ⟨rfl, h1, h2⟩
      have O7 := hide ((unhide O6).call (St' := SHas W m b (fun A w G => Has W w G m A) (agS (j + 1)) A2) h1 h2)
      clear h1 h2 O6 CE
      have H9 : Hid (SHas W m b (fun A w G => Has W w G m A) (agS (j + 1)) A2 w13 (fun _ => False)) := ((unhide O7).done (SHas.stay (unhide M) b _ _) (.bool true)).2.1
      clear O7
      go_wp2_with fail
      go_roundw
      case rel => exact ⟨j + 1, by omega, by go_num, by rw [unhide AW], by rw [← unhide HA2]; exact unhide H9⟩
      case measure => simp [intOf]; omega
    · have hge : ¬ ((j : Int) < (n21 : Int)) := by omega
      have TH := hide (SHas.stay (unhide M) b (agS j) (agM z j))
      go_wp2_with fail
      go_ret
      exact ⟨rfl, ((unhide TH).sz _ _ (unhide HH)).below (Nat.le_refl _) (fun _ h => h.elim)⟩

set_option maxRecDepth 100000 in
theorem lifted (os : Os) (started : os.Started) (H : Type) (enc : TypeId × Value → H) :
    ReturnsInHanded {} Try.checked os 3 .any (Rows.objectsAgainSpec.pre6 enc Try.prog Try.f3 Rows.objectsAgainRow.domain false) (Rows.objectsAgainSpec.post enc Try.prog Try.f3 false true false false) := by
  refine law_frame (C := Try.checked) (ts := [3, 3]) (tb := 4) (by kernel_rfl) started (by kernel_rfl) Try.func3 Try.params3 (by kernel_rfl) Try.underlying4 (by kernel_rfl) (by kernel_rfl) rfl ?_
    (ChangeSpec.witness6 (enc := enc) (C := Try.checked) false ⟨#[], #[.int .i64 0, .int .i64 0], []⟩ 8 (by kernel_rfl) (by kernel_rfl) (by kernel_rfl) (by kernel_rfl)) ?_
  · intro ds hd
    match ds, hd with
    | [d0, d1], _ => rfl
  · intro W base args ds p hval hA
    obtain ⟨v0, vs0, d0, ds0, p0, q0, hargs, rfl, rfl, h0, r0⟩ := trodAll_cons hA
    obtain ⟨v1, vs1, d1, ds1, p1, q1, rfl, rfl, rfl, h1, r1⟩ := trodAll_cons r0
    obtain ⟨rfl, rfl, rfl⟩ := trodAll_nil r1
    obtain rfl : args = #[v0, v1] := by cases args; simp_all
    obtain ⟨k, rfl, rfl, rfl, wk⟩ := open_int Try.underlying3 (hval 0 3 v0 rfl rfl) h0
    obtain ⟨n, rfl, rfl, rfl, wn⟩ := open_int Try.underlying3 (hval 1 3 v1 rfl rfl) h1
    exact walk k n wk wn W

theorem over : Rows.objectsAgainRow.holds Try.pinned (OpenSpec.ofChange Rows.objectsAgainSpec) :=
  OpenClaim.holds_of_wide 3 Try.f3 rfl rfl rfl rfl rfl rfl rfl ⟨rfl, rfl, rfl, rfl, rfl⟩ rfl rfl rfl rfl rfl (by kernel_rfl) Try.func3 (by kernel_rfl)
    (of_decide_eq_true (by kernel_rfl)) (by unfold Func.isWrapper; first | (rw [if_pos (by decide +kernel)]; kernel_rfl) | (rw [if_neg (by decide +kernel)]; exact ⟨rfl, rfl⟩))
    (fun os started H enc _ => lifted os started H enc)

end Go.Proofs.Ytjmgmbigbkllgab.objectsAgain
namespace Go.Proofs.Ytjmgmbigbkllgab
theorem objectsAgain_holds : Rows.ObjectsAgainSaid := objectsAgain.over
end Go.Proofs.Ytjmgmbigbkllgab
