
/-
  For every row of calls, and whether it is committed or not, ObjectsFree returns true: behind Commit, or Abort, as many frames are free as are named by nothing. No condition.
-/
import Derived.Test.YtjmgmbigbkllgaaOSteps
import Derived.Test.YtjmgmbigbkllgaaLaw
import Derived.Test.YtjmgmbigbkllgaaRows
namespace Go.Proofs.Ytjmgmbigbkllgaa.objectsFree
open Go.ChangeShapes Go.WideShapes Go.ChangeAt Go.RowKit Go.Joins
set_option linter.unusedVariables false
set_option linter.unusedSimpArgs false
set_option maxRecDepth 100000

/-- The store and the memory behind i calls. -/
def fS (o : Nat → OOp) : Nat → Sto × Mm
  | 0 => (sS 12 100, sA 100)
  | i + 1 => (stepS (if i = 20 then (fS o i).1.markS else (fS o i).1) (fS o i).2 (o i), stepM (if i = 20 then (fS o i).1.markS else (fS o i).1) (fS o i).2 (o i))
def mS (o : Nat → OOp) (i : Nat) : Sto := if i = 20 then (fS o i).1.markS else (fS o i).1
theorem fS_next (o : Nat → OOp) (i : Nat) : fS o (i + 1) = (stepS (mS o i) (fS o i).2 (o i), stepM (mS o i) (fS o i).2 (o i)) := rfl
theorem mark_d (S : Sto) : S.markS.d = S.d := by unfold Sto.markS; split <;> rfl
structure Stands (S : Sto) : Prop where
  inv : Inv S
  ok : S.ok
  lh : S.F.lo = 10 ∧ S.F.hi = 100
  d : S.d = dirF
theorem Stands.mark {S : Sto} (h : Stands S) : Stands S.markS := ⟨inv_mark h.inv, markS_ok h.ok, ⟨(lohi_mark S).1.trans h.lh.1, (lohi_mark S).2.trans h.lh.2⟩, (mark_d S).trans h.d⟩
theorem Stands.step {S : Sto} (h : Stands S) (A : Mm) (p : OOp) : Stands (stepS S A p) :=
  ⟨inv_step h.inv A p, stepS_ok h.ok A p, ⟨(lohi_step S A p).1.trans h.lh.1, (lohi_step S A p).2.trans h.lh.2⟩, (fixed_step S A p).2.1.trans h.d⟩
theorem f_stands (o : Nat → OOp) : ∀ i, Stands (fS o i).1
  | 0 => ⟨inv_sS 100 (by decide) 12 (by decide), sS_ok 12 100 (by decide) (by decide), sS_lo 12 100, rfl⟩
  | i + 1 => by
    rw [fS_next]
    refine Stands.step ?_ _ _
    unfold mS; split
    · exact (f_stands o i).mark
    · exact f_stands o i
theorem m_stands (o : Nat → OOp) (i : Nat) : Stands (mS o i) := by
  unfold mS; split
  · exact (f_stands o i).mark
  · exact f_stands o i
theorem f_ok (o : Nat → OOp) (n : Nat) (hv : ∀ i, i < n → InU (o i).v) : ∀ i, i ≤ n → (fS o i).2.ok (8 * i)
  | 0, _ => sA_ok 100 (by decide) (by decide)
  | i + 1, h => by rw [fS_next]; exact ok_mono (stepM_ok (f_ok o n hv i (by omega)) _ (hv i (by omega))) (by omega)

/-- The store, and the Dir, behind j Takes. -/
def tS (S : Sto) : Nat → Sto
  | 0 => S
  | j + 1 => (tS S j).took
def tD (S : Sto) : Nat → Nat → Int
  | 0 => dirF
  | j + 1 => upd (tD S j) j (tS S j).F.allocV
theorem t_stands {S : Sto} (h : Stands S) : ∀ j, Stands (tS S j)
  | 0 => h
  | j + 1 => ⟨inv_took (t_stands h j).inv, took_ok (t_stands h j).ok, ⟨(alloc_lo _).1.trans (t_stands h j).lh.1, (alloc_lo _).2.trans (t_stands h j).lh.2⟩, (t_stands h j).d⟩
theorem t_same (S : Sto) : ∀ j, (tS S j).b = S.b ∧ (tS S j).k = S.k ∧ (tS S j).w = S.w ∧ (tS S j).is = S.is
  | 0 => ⟨rfl, rfl, rfl, rfl⟩
  | j + 1 => t_same S j
theorem t_dir {S : Sto} : ∀ j, (∀ i, i < j → (tS S i).F.allocE = 0) → ∀ i, i < j → (tS S j).F.tk (tD S j i)
  | 0, _, i, hi => by omega
  | j + 1, h, i, hi => by
    show (tS S j).F.allocA.tk (upd (tD S j) j (tS S j).F.allocV i)
    by_cases e : i = j
    · rw [e, upd_same]; exact tk_new (h j (by omega))
    · rw [upd_other _ _ _ _ e]; exact tk_alloc (t_dir j (fun i hi => h i (by omega)) i (by omega))
/-- What stands at the end: all that is named is taken. -/
structure Ends (U : Sto) : Prop where
  lh : U.F.lo = 10 ∧ U.F.hi = 100
  s2 : ∀ i, U.F.s i = 0 ∨ U.F.s i = 1
  b : ∀ i, i < 49 → (U.b i).k ≠ 0 → U.F.tk (U.b i).l
  w : ∀ i, i < 49 → (U.w i).k ≠ 0 → U.F.tk (U.w i).l
  d : ∀ i, i < 8 → U.F.tk (U.d i)
def named (U : Sto) (i : Nat) : Bool := decide (10 ≤ i) && !U.nmB i
def cnt (U : Sto) (j : Nat) : Nat := (List.range j).countP (named U)
theorem ends_left {U : Sto} (h : Ends U) : U.freed.F.left = cnt U 100 := by
  have := freed_left U h.s2 (fun i hlo hhi hn => by
    unfold Sto.nmB at hn
    have key : ∀ z : Int, U.F.tk z → z = (i : Int) → U.F.s i = 1 := fun z hz e => by have := hz.2; rw [e, Int.toNat_natCast] at this; exact this
    rw [Bool.or_eq_true, Bool.or_eq_true] at hn
    rcases hn with (hn | hn) | hn
    · obtain ⟨q, hq, e⟩ := (inD_iff _ _).1 hn; exact key _ (h.d q hq) e
    · obtain ⟨q, hq, hk, e⟩ := (hasB_iff _ _).1 hn; exact key _ (h.b q hq hk) e
    · obtain ⟨q, hq, hk, e⟩ := (hasB_iff _ _).1 hn; exact key _ (h.w q hq hk) e) (by rw [h.lh.2]; decide)
  rw [this, h.lh.2]
  unfold cnt named
  rw [h.lh.1]
theorem cnt_next (U : Sto) (j : Nat) : cnt U (j + 1) = cnt U j + if named U j = true then 1 else 0 := by
  unfold cnt; rw [List.range_succ, List.countP_append]; simp [List.countP_cons]
theorem cnt_ten (U : Sto) : cnt U 10 = 0 := by
  unfold cnt; rw [List.countP_eq_zero]
  intro i hi
  unfold named
  rw [decide_eq_false (by have := List.mem_range.1 hi; omega)]; simp
theorem cnt_le (U : Sto) (j : Nat) : cnt U j ≤ j := by
  have := List.countP_le_length (p := named U) (l := List.range j)
  rw [List.length_range] at this; exact this
/-- Behind a Commit of the Dir d. -/
def cU (T : Sto) (d : Nat → Int) : Sto := ⟨T.F, T.w, T.k, d, fun _ => ze, false⟩
def aU (T : Sto) : Sto := ⟨T.F, T.w, T.b, T.d, fun _ => ze, false⟩
theorem commit_is {T : Sto} (h : T.is = true) (d : Nat → Int) : T.commitS d = (cU T d).freed ∧ T.doneE = 0 := by
  unfold Sto.commitS Sto.doneE; rw [h]; exact ⟨rfl, rfl⟩
theorem abort_is {T : Sto} (h : T.is = true) : T.abortS = (aU T).freed ∧ T.doneE = 0 := by
  unfold Sto.abortS Sto.doneE; rw [h]; exact ⟨rfl, rfl⟩
theorem ends_c {T : Sto} (h : Stands T) (d : Nat → Int) (hd : ∀ i, i < 8 → T.F.tk (d i)) : Ends (cU T d) := ⟨h.lh, h.inv.s2, h.inv.tm, h.inv.tw, hd⟩
theorem ends_a {T : Sto} (h : Stands T) : Ends (aU T) := ⟨h.lh, h.inv.s2, h.inv.tb, h.inv.tw, h.inv.td⟩
theorem mark_is (S : Sto) : S.markS.is = true := by
  unfold Sto.markS
  split
  · assumption
  · rfl

/-! ### the row of what is named -/
def nmL (U : Sto) (i : Nat) : Nat → Bool := fun z => hasTo U.b (z : Int) i || hasTo U.w (z : Int) i
def nmA (U : Sto) (i : Nat) : Nat → Bool := fun z => nmL U 49 z || (List.range i).any fun q => U.d q == (z : Int)
theorem nmA_all (U : Sto) (z : Nat) : nmA U 8 z = U.nmB z := by
  unfold nmA nmL Sto.nmB inD hasB
  generalize hasTo U.b (z : Int) 49 = a
  generalize hasTo U.w (z : Int) 49 = b
  generalize ((List.range 8).any fun i => U.d i == (z : Int)) = c
  cases a <;> cases b <;> cases c <;> rfl

def nmH (U : Sto) (i : Nat) : Nat → Bool := fun z => hasTo U.b (z : Int) (i + 1) || hasTo U.w (z : Int) i
theorem at_eq {x : En} (h : x.k ≠ 0) (z : Int) : atB x z = (x.l == z) := by
  unfold atB
  rw [Bool.eq_iff_iff, decide_eq_true_iff, beq_iff_eq]
  exact ⟨fun q => q.2, fun q => ⟨h, q⟩⟩
theorem nmH_out (U : Sto) (i : Nat) (h : (U.b i).k = 0) : nmH U i = nmL U i := by
  funext z; unfold nmH nmL; rw [hasTo_next, atB_no (fun q => q.1 h), Bool.or_false]
theorem nmH_in (U : Sto) (i : Nat) (h : (U.b i).k ≠ 0) : nmH U i = nmP (nmL U i) (U.b i).l := by
  funext z
  show (hasTo U.b (z : Int) (i + 1) || hasTo U.w (z : Int) i) = ((hasTo U.b (z : Int) i || hasTo U.w (z : Int) i) || ((U.b i).l == (z : Int)))
  rw [hasTo_next, at_eq h]
  generalize hasTo U.b (z : Int) i = a
  generalize hasTo U.w (z : Int) i = b
  generalize ((U.b i).l == (z : Int)) = c
  cases a <;> cases b <;> cases c <;> rfl
theorem nmL_out (U : Sto) (i : Nat) (h : (U.w i).k = 0) : nmL U (i + 1) = nmH U i := by
  funext z; unfold nmH nmL; rw [hasTo_next U.w, atB_no (fun q => q.1 h), Bool.or_false]
theorem nmL_in (U : Sto) (i : Nat) (h : (U.w i).k ≠ 0) : nmL U (i + 1) = nmP (nmH U i) (U.w i).l := by
  funext z; unfold nmH nmL nmP; rw [hasTo_next U.w, at_eq h, Bool.or_assoc]
theorem nmA_next (U : Sto) (i : Nat) : nmA U (i + 1) = nmP (nmA U i) (U.d i) := by
  funext z; unfold nmA nmP; rw [List.range_succ, List.any_append, Bool.or_assoc]; simp
theorem nmA_zero (U : Sto) : nmA U 0 = nmL U 49 := by
  funext z; unfold nmA; simp
def rowB (nm : Nat → Bool) : Array Value := tab 100 fun i => .bool (nm i)
theorem rowB_get (nm : Nat → Bool) (i : Nat) (h : i < 100) : (rowB nm)[i]? = some (.bool (nm i)) := tab_get _ _ _ h
theorem rowB_put (nm : Nat → Bool) (i : Nat) : (rowB nm).setIfInBounds i (.bool true) = rowB (nmP nm (i : Int)) := by
  unfold rowB
  rw [tab_set]
  refine tab_ext fun j _ => ?_
  unfold nmP
  by_cases e : j = i
  · subst e; rw [upd_same]; simp
  · rw [upd_other _ _ _ _ e]
    have : ((i : Int) == (j : Int)) = false := by simp; omega
    rw [this, Bool.or_false]
theorem made_tab {w : World} {base g n : Nat} {e : TypeId} {z : Value} (h1 : z.cells = #[z]) (h : w.ownsRow base e 1 (.slice (some ⟨g, 0, none⟩) n n) n (madeCells z.cells (n * 1)).toList) :
    w.heap[g]? = some (.cells (tab n fun _ => z) e (0, 0)) := by
  rcases h.2 with ⟨h', _⟩ | ⟨g', cap, cur, h', _, hg, _, _, hcs, htake⟩
  · simp at h'
  · simp only [Value.slice.injEq, Option.some.injEq, Addr.mk.injEq, and_true, true_and] at h'
    obtain ⟨rfl, rfl⟩ := h'
    rw [Nat.mul_one] at htake hcs
    have hcur : cur = tab n (fun _ => z) := by
      rw [List.take_of_length_le (by simp [hcs])] at htake
      have h2 : cur = madeCells z.cells n := by rw [← Array.toArray_toList (xs := cur), htake, Array.toArray_toList]
      rw [h2]
      apply Array.ext_getElem?
      intro i
      by_cases hi : i < n
      · rw [tab_get _ _ _ hi]
        simp only [madeCells, Array.getElem?_map, Array.getElem?_range, hi]
        simp [h1, Nat.mod_one]
      · rw [tab_none _ _ _ (by omega), Array.getElem?_eq_none (by rw [size_madeCells]; omega)]
    rw [← hcur]; exact hg
theorem lt_heap {w : World} {g : Nat} {o : Obj} (h : w.heap[g]? = some o) : g < w.heap.size := by
  rcases Nat.lt_or_ge g w.heap.size with h' | h'
  · exact h'
  · rw [Array.getElem?_eq_none h'] at h; cases h
theorem info_boolO : (Try.prog.info? 4).map (fun i => (i.zero, i.size, i.bytes)) = some (some (.bool false), 1, 1) := by kernel_rfl
theorem equal_dir (d : Nat → Int) (w : World) : (Op.equalIn 10000 60 (.agg (dirV d)) (.agg (dirV d))).run Try.prog w = .ok true w := by
  have := run_equalIn_ints w 9998 60 3 .i64 8 Try.underlying60 Try.underlying3 (by kernel_rfl) (dirTo8 d) (dirTo8 d) (by simp [dirTo8]) (by simp [dirTo8])
  rw [decide_eq_true rfl] at this
  exact this
theorem dir_guard : Try.prog.eqGuardType Try.prog.depth 60 = false := by kernel_rfl

set_option maxHeartbeats 16000000 in
theorem walk (W : World) (a : Option Addr) (n cap : Nat) (o : Nat → OOp) (c : Bool) (hO : OOpsAt W a n cap o) :
    Calls Try.prog 5 #[.slice a n cap, .bool c] W fun e W' => e = .returned (.bool true) ∧ Below W.heap.size W W' := by
  obtain ⟨hn, hops⟩ := hO
  have HO := hide hops
  clear hops
  obtain ⟨n60, hn60⟩ : ∃ n60, n60 = min n 60 := ⟨_, rfl⟩
  have hmn : n60 ≤ n := by omega
  have hm60 : n60 ≤ 60 := by omega
  have hmm : n60 = n ∨ n60 = 60 := by omega
  clear hn60
  have HV : Hid (∀ i, i < n60 → InU (o i).v) := fun i hi => by
    rcases unhide HO with h | ⟨b, off, _, h⟩
    · omega
    · exact (h i (by omega)).2.2.2.2
  go_enter Try.func5, Try.ntmps5
  go_wp2_with fail
  refine (oshown_any W).mono ?_
  rintro e w0 ⟨rfl, hk0⟩
  have HK0 := hide hk0
  clear hk0
  go_wp2_with fail
  refine (new_any w0 100 (by decide) (by decide)).mono ?_
  intro e w1 hm
  obtain ⟨m, rfl, h0, -⟩ := made_has W (unhide HK0) hm (fun _ => False) (fun _ h => h.elim)
  have H0 : Hid (Has W w1 (fun _ => False) m (sA 100)) := h0
  have T0 : Hid (Stay W (fun w G => Has W w G m (sA 100))) := Has.stay W m _
  clear hm h0 HK0
  go_wp2_with fail
  refine (table_any 12 (by decide) w1).mono ?_
  rintro e w2 ⟨rfl, hb⟩
  have H1 : Hid (Has W w2 (fun _ => False) m (sA 100)) := (unhide T0).bl _ _ _ (unhide H0) (Keeps.of_below hb)
  clear hb H0
  go_wp2_with fail
  refine (dir_any w2).mono ?_
  rintro e w3 ⟨rfl, hb⟩
  have H2 : Hid (Has W w3 (fun _ => False) m (sA 100)) := (unhide T0).bl _ _ _ (unhide H1) (Keeps.of_below hb)
  clear hb H1 T0
  go_wp2_with fail
  refine (sof_tbl 12 100 (by decide) (by decide) (by decide) w3 _ (unhide H2)).mono ?_
  rintro e w4 ⟨b, rfl, h1, -⟩
  have HS : Hid (SHas W m b (fun A w G => Has W w G m A) (sS 12 100) (sA 100) w4 (fun _ => False)) := h1
  clear h1 H2
  go_wp2_with fail
  have M := hide (Has.memL W m)
  have H0 : Hid (SHas W m b (fun A w G => Has W w G m A) (fS o 0).1 (fS o 0).2 w4 (fun _ => False)) := unhide HS
  clear HS
  go_wp2_with fail
  go_loopw [10, 11] (fun q _ wr => ∃ j : Nat, j ≤ n60 ∧ q = .int .i64 j ∧ SHas W m b (fun A w G => Has W w G m A) (fS o j).1 (fS o j).2 wr (fun _ => False)) (fun q _ _ => n60 - (intOf q).toNat)
  case atStart => exact ⟨0, by omega, rfl, unhide H0⟩
  case round =>
    clear H0
    obtain ⟨j, hj, rfl, hh⟩ := hrel
    have HH := hide hh
    clear hh
    by_cases hlt : j < n60
    · obtain ⟨x, off, rfl, hx⟩ : ∃ b off, a = some ⟨b, off, none⟩ ∧ ∀ i, i < n → OOpAt W b (off + i * 4) (o i) := by
        rcases unhide HO with h | h
        · omega
        · exact h
      have hxj := hx j (by omega)
      have RQ : Hid (∀ (w' : World) S' A', SHas W m b (fun A w G => Has W w G m A) S' A' w' (fun _ => False) → w'.rangeAt x (off + j * 4) (o j).cells) := fun w' S' A' h => rangeAt_keeps hxj.1 h.st.keeps id
      have hfit := hide hxj.2
      have hjn : (j : Int) < (n : Int) := by omega
      have hj60 : (j : Int) < 60 := by omega
      have s4 : (Try.prog.info? 48).map (·.size) = some (o j).cells.length := by show _ = some 4; kernel_rfl
      clear hx hxj
      have R0 := hide (unhide RQ _ _ _ (unhide HH))
      have EN := hide (fS_next o j)
      have MS := hide (m_stands o j)
      have AO := hide (f_ok o n60 (unhide HV) j hj)
      have EM : Hid (mS o j = if j = 20 then (fS o j).1.markS else (fS o j).1) := rfl
      obtain ⟨kd, id, wd, v, hop⟩ : ∃ kd id wd v, o j = ⟨kd, id, wd, v⟩ := ⟨_, _, _, _, rfl⟩
      rw [hop] at R0 EN hfit s4
      clear hop
      obtain ⟨S0, hS0⟩ : ∃ S0, S0 = mS o j := ⟨_, rfl⟩
      obtain ⟨A0, hA0⟩ : ∃ A0, A0 = (fS o j).2 := ⟨_, rfl⟩
      rw [← hS0] at MS EN EM
      rw [← hA0] at AO EN HH
      obtain ⟨F1, hF1⟩ : ∃ F1, F1 = fS o (j + 1) := ⟨_, rfl⟩
      rw [← hF1] at EN
      have HF1 := hide hF1
      clear hS0 hA0 hF1 RQ
      have R1 : Hid (wr.rangeAt x (off + j * 4) [.int .i64 kd, .int .i64 id, .int .i64 wd, .int .u64 v]) := unhide R0
      have s4' : (Try.prog.info? 48).map (·.size) = some [Value.int .i64 kd, .int .i64 id, .int .i64 wd, .int .u64 v].length := s4
      go_upto_region 12 with (with_reducible refine wpList_load_mid (by with_unfolding_all rfl) 48 _ (by with_unfolding_all rfl) x (off + j * 4) (by with_unfolding_all rfl) [.int .i64 kd, .int .i64 id, .int .i64 wd, .int .u64 v] _ (unhide R1) Try.underlying48 (by with_unfolding_all rfl) s4' ?_)
      clear R0 R1 s4 s4'
      have O1 := hide ((Held.start (SHas.stay (unhide M) b _ _) (unhide HH)).alloc (SHas.stay (unhide M) b _ _) (.cells #[.int .i64 kd, .int .i64 id, .int .i64 wd, .int .u64 v] 48))
      obtain ⟨g, hg⟩ : ∃ g, g = wr.heap.size := ⟨_, rfl⟩
      rw [← hg] at O1 ⊢
      generalize wr.alloc (.cells #[.int .i64 kd, .int .i64 id, .int .i64 wd, .int .u64 v] 48) = w5 at *
      clear hg HH
      by_cases h20 : j = 20
      · have hj20 : ((j : Int) == 20) = true := by rw [h20]; rfl
        have CM := hide (mark_obj (unhide M) (unhide O1).st)
        have EM2 : Hid (S0 = (fS o j).1.markS) := (unhide EM).trans (if_pos h20)
        generalize (fS o j).1.markE = E9 at *
        rw [← unhide EM2] at CM
        clear EM EM2 h20
        go_wp2_with fail
        refine (unhide CM).mono ?_
        rintro e w6 ⟨rfl, h1, h2⟩
        have O2 := hide ((unhide O1).call (St' := SHas W m b (fun A w G => Has W w G m A) S0 A0) h1 h2)
        clear h1 h2 O1 CM hj20
        have kg := (unhide O2).at g (.cells #[.int .i64 kd, .int .i64 id, .int .i64 wd, .int .u64 v] 48) (by simp)
        have c0 : w6.cell? ⟨g, 0, none⟩ = some (.int .i64 kd) := by rw [cell_of_block kg]; rfl
        have c1 : w6.cell? ⟨g, 1, none⟩ = some (.int .i64 id) := by rw [cell_of_block kg]; rfl
        have c2 : w6.cell? ⟨g, 2, none⟩ = some (.int .i64 wd) := by rw [cell_of_block kg]; rfl
        have c3 : w6.cell? ⟨g, 3, none⟩ = some (.int .u64 v) := by rw [cell_of_block kg]; rfl
        clear kg
        have K3 := hide (okind_any kd (unhide hfit).1 3 (by decide) (by decide))
        have KI := hide (okind_any id (unhide hfit).2.1 20 (by decide) (by decide))
        have K8 := hide (okind_any wd (unhide hfit).2.2.1 8 (by decide) (by decide))
        have K2 := hide (okind_any wd (unhide hfit).2.2.1 2 (by decide) (by decide))
        have HU : Hid (InU v) := (unhide hfit).2.2.2
        have h3 := kindN_lt kd 3 (by decide)
        obtain ⟨k3, hk3⟩ : ∃ k3, k3 = kindN kd 3 := ⟨_, rfl⟩
        obtain ⟨ki, hki⟩ : ∃ ki, ki = kindN id 20 := ⟨_, rfl⟩
        obtain ⟨k8, hk8⟩ : ∃ k8, k8 = kindN wd 8 := ⟨_, rfl⟩
        obtain ⟨k2, hk2⟩ : ∃ k2, k2 = kindN wd 2 := ⟨_, rfl⟩
        have b2 : k2 < 2 := by rw [hk2]; exact kindN_lt _ _ (by decide)
        have EN2 : Hid (F1 = (if k3 = 0 then S0.setS A0 (ki : Int) (k8 : Int) v else if k3 = 1 then S0.makeS A0 (1 + (k2 : Int)) else S0.endS (ki : Int), if k3 = 0 then S0.setM A0 (ki : Int) (k8 : Int) v else if k3 = 1 then S0.makeM A0 (1 + (k2 : Int)) else A0)) := by
          show _ = _; rw [hk3, hki, hk8, hk2]; exact unhide EN
        rw [← hk3] at K3 h3
        rw [← hki] at KI
        rw [← hk8] at K8
        rw [← hk2] at K2
        clear hk3 hki hk8 hk2 EN
        rcases (show k3 = 0 ∨ k3 = 1 ∨ k3 = 2 by omega) with rfl | rfl | rfl
        · have E0 : Hid (F1 = (S0.setS A0 (ki : Int) (k8 : Int) v, S0.setM A0 (ki : Int) (k8 : Int) v)) := unhide EN2
          have CS := hide (fun (w' : World) G (h : SHas W m b (fun A w G => Has W w G m A) S0 A0 w' G) => set_any (unhide M) h (unhide MS).ok (ok_mono (unhide AO) (by omega)) (ki : Int) (k8 : Int) v (unhide HU))
          clear EN2 K2 h3
          go_wp2_with fail
          refine (unhide K3 _).mono ?_
          rintro e w6 ⟨rfl, rfl⟩
          go_upto_region 16 with fail
          have O3 := hide ((unhide O2).drew (SHas.stay (unhide M) b _ _))
          refine wp_region_noPanic ?_
          refine wp_region_held_drew (S := fun w' => w'.cell? ⟨g, 1, none⟩ = some (.int .i64 id) ∧ w'.cell? ⟨g, 2, none⟩ = some (.int .i64 wd) ∧ w'.cell? ⟨g, 3, none⟩ = some (.int .u64 v)) (by kernel_rfl) ⟨c1, c2, c3⟩ (fun hHeld => ?_)
          clear c0 c1 c2 c3 O2 K3
          generalize w6.drew = w7 at *
          refine take_at 0 68 (v := ?_) rfl rfl (by kernel_rfl) (by kernel_rfl) (by kernel_rfl) (Or.inl ⟨by rfl, ?_⟩) hHeld ?_
          rotate_left
          · intro w hSw; go_simp; with_reducible rfl
          simp only [Act.put, List.setIfInBounds_toArray, List.set_cons_zero, List.set_cons_succ]
          refine take_at 1 69 (v := ?_) rfl rfl (by kernel_rfl) (by kernel_rfl) (by kernel_rfl) (Or.inl ⟨by rfl, ?_⟩) hHeld ?_
          rotate_left
          · intro w hSw; go_simp; with_reducible rfl
          simp only [Act.put, List.setIfInBounds_toArray, List.set_cons_zero, List.set_cons_succ]
          refine take_at 2 70 (v := ?_) rfl rfl (by kernel_rfl) (by kernel_rfl) (by kernel_rfl) (Or.inl ⟨by rfl, ?_⟩) hHeld ?_
          rotate_left
          · intro w hSw; obtain ⟨s1, s2, s3⟩ := hSw; go_simp; with_reducible rfl
          simp only [Act.put, List.setIfInBounds_toArray, List.set_cons_zero, List.set_cons_succ]
          refine take_at 4 72 (v := ?_) rfl rfl (by kernel_rfl) (by kernel_rfl) (by kernel_rfl) (Or.inl ⟨by rfl, ?_⟩) hHeld ?_
          rotate_left
          · intro w hSw; go_simp; with_reducible rfl
          simp only [Act.put, List.setIfInBounds_toArray, List.set_cons_zero, List.set_cons_succ]
          refine take_at 5 73 (v := ?_) rfl rfl (by kernel_rfl) (by kernel_rfl) (by kernel_rfl) (Or.inl ⟨by rfl, ?_⟩) hHeld ?_
          rotate_left
          · intro w hSw; obtain ⟨s1, s2, s3⟩ := hSw; go_simp; with_reducible rfl
          simp only [Act.put, List.setIfInBounds_toArray, List.set_cons_zero, List.set_cons_succ]
          refine take_at 7 75 (v := ?_) rfl rfl (by kernel_rfl) (by kernel_rfl) (by kernel_rfl) (Or.inl ⟨by rfl, ?_⟩) hHeld ?_
          rotate_left
          · intro w hSw; go_simp; with_reducible rfl
          simp only [Act.put, List.setIfInBounds_toArray, List.set_cons_zero, List.set_cons_succ]
          refine take_at 8 76 (v := ?_) rfl rfl (by kernel_rfl) (by kernel_rfl) (by kernel_rfl) (Or.inl ⟨by rfl, ?_⟩) hHeld ?_
          rotate_left
          · intro w hSw; obtain ⟨s1, s2, s3⟩ := hSw; go_simp; with_reducible rfl
          simp only [Act.put, List.setIfInBounds_toArray, List.set_cons_zero, List.set_cons_succ]
          refine wpAnyH_ready (rs := [3]) (by kernel_rfl) (by simp) ?_
          refine AllReadyH.cons rfl (fun K hK => ?_) AllReadyH.nil
          go_simp
          refine (unhide KI _).mono ?_
          rintro e w7 ⟨rfl, rfl⟩
          go_wp2_with fail
          refine hK.out _ _ hHeld (fun hNew => ?_)
          clear hK K hNew
          refine wpAnyH_ready (rs := [6]) (by kernel_rfl) (by simp) ?_
          refine AllReadyH.cons rfl (fun K hK => ?_) AllReadyH.nil
          go_simp
          refine (unhide K8 _).mono ?_
          rintro e w7 ⟨rfl, rfl⟩
          go_wp2_with fail
          refine hK.out _ _ hHeld (fun hNew => ?_)
          clear hK K hNew KI K8
          refine wpAnyH_ready (rs := [9]) (by kernel_rfl) (by simp) ?_
          refine AllReadyH.cons rfl (fun K hK => ?_) AllReadyH.nil
          go_simp
          refine (unhide CS _ _ (unhide O3).st).mono ?_
          rintro e w9 ⟨rfl, h1, h2⟩
          have O4 := hide ((unhide O3).call (St' := SHas W m b (fun A w G => Has W w G m A) (S0.setS A0 (ki : Int) (k8 : Int) v) (S0.setM A0 (ki : Int) (k8 : Int) v)) h1 h2)
          have kg := (unhide O4).at g (.cells #[.int .i64 kd, .int .i64 id, .int .i64 wd, .int .u64 v] 48) (by simp)
          generalize S0.setE A0 (ki : Int) (k8 : Int) v = E9 at *
          go_wp2_with fail
          clear hHeld
          refine hK.out _ _ ⟨by rw [cell_of_block kg]; rfl, by rw [cell_of_block kg]; rfl, by rw [cell_of_block kg]; rfl⟩ (fun hNew => ?_)
          clear hK K hNew h1 h2 O3 CS kg
          refine wpAnyH_done (by kernel_rfl) ?_ _
          refine NoPanic.normal ?_
          have O3 := O4
          clear O4
          have H4 : Hid (SHas W m b (fun A w G => Has W w G m A) (fS o (j + 1)).1 (fS o (j + 1)).2 w9 (fun _ => False)) := by
            show SHas _ _ _ _ _ _ _ _
            rw [← unhide HF1, unhide E0]
            exact ((unhide O3).done (SHas.stay (unhide M) b _ _) (.bool true)).2.1
          clear O3 E0 HF1
          go_wp2_with fail
          go_roundw
          case rel => exact ⟨j + 1, by omega, by go_num, unhide H4⟩
          case measure => simp [intOf]; omega
        · have E0 : Hid (F1 = (S0.makeS A0 (1 + (k2 : Int)), S0.makeM A0 (1 + (k2 : Int)))) := unhide EN2
          have CS := hide (make_any (unhide M) (unhide O2).st (unhide MS).ok (ok_mono (unhide AO) (by omega)) (1 + (k2 : Int)))
          clear EN2 KI K8 h3 c1 c3
          generalize S0.makeI A0 (1 + (k2 : Int)) = I9 at *
          generalize S0.makeE A0 (1 + (k2 : Int)) = E9 at *
          go_wp2_with fail
          refine (unhide K3 _).mono ?_
          rintro e w6 ⟨rfl, rfl⟩
          go_wp2_with fail
          refine (unhide K2 _).mono ?_
          rintro e w6 ⟨rfl, rfl⟩
          go_wp2_with fail
          refine (unhide CS).mono ?_
          rintro e w9 ⟨rfl, h1, h2⟩
          have O3 := hide ((unhide O2).call (St' := SHas W m b (fun A w G => Has W w G m A) (S0.makeS A0 (1 + (k2 : Int))) (S0.makeM A0 (1 + (k2 : Int)))) h1 h2)
          clear h1 h2 O2 CS K2 K3 c0 c2
          have H4 : Hid (SHas W m b (fun A w G => Has W w G m A) (fS o (j + 1)).1 (fS o (j + 1)).2 w9 (fun _ => False)) := by
            show SHas _ _ _ _ _ _ _ _
            rw [← unhide HF1, unhide E0]
            exact ((unhide O3).done (SHas.stay (unhide M) b _ _) (.bool true)).2.1
          clear O3 E0 HF1
          go_wp2_with fail
          go_roundw
          case rel => exact ⟨j + 1, by omega, by go_num, unhide H4⟩
          case measure => simp [intOf]; omega
        · have E0 : Hid (F1 = (S0.endS (ki : Int), A0)) := unhide EN2
          have CS := hide (end_obj (unhide M) (unhide O2).st (unhide MS).ok (ki : Int))
          clear EN2 K2 K8 h3 c2 c3
          generalize S0.findE (ki : Int) = E9 at *
          go_wp2_with fail
          refine (unhide K3 _).mono ?_
          rintro e w6 ⟨rfl, rfl⟩
          go_wp2_with fail
          refine (unhide KI _).mono ?_
          rintro e w6 ⟨rfl, rfl⟩
          go_wp2_with fail
          refine (unhide CS).mono ?_
          rintro e w9 ⟨rfl, h1, h2⟩
          have O3 := hide ((unhide O2).call (St' := SHas W m b (fun A w G => Has W w G m A) (S0.endS (ki : Int)) A0) h1 h2)
          clear h1 h2 O2 CS KI K3 c0 c1
          have H4 : Hid (SHas W m b (fun A w G => Has W w G m A) (fS o (j + 1)).1 (fS o (j + 1)).2 w9 (fun _ => False)) := by
            show SHas _ _ _ _ _ _ _ _
            rw [← unhide HF1, unhide E0]
            exact ((unhide O3).done (SHas.stay (unhide M) b _ _) (.bool true)).2.1
          clear O3 E0 HF1
          go_wp2_with fail
          go_roundw
          case rel => exact ⟨j + 1, by omega, by go_num, unhide H4⟩
          case measure => simp [intOf]; omega
      · have hj20 : ((j : Int) == 20) = false := by simp; omega
        have EM2 : Hid (S0 = (fS o j).1) := (unhide EM).trans (if_neg h20)
        rw [← unhide EM2] at O1
        have O2 := O1
        clear EM EM2 h20 O1
        generalize w5 = w6 at *
        have kg := (unhide O2).at g (.cells #[.int .i64 kd, .int .i64 id, .int .i64 wd, .int .u64 v] 48) (by simp)
        have c0 : w6.cell? ⟨g, 0, none⟩ = some (.int .i64 kd) := by rw [cell_of_block kg]; rfl
        have c1 : w6.cell? ⟨g, 1, none⟩ = some (.int .i64 id) := by rw [cell_of_block kg]; rfl
        have c2 : w6.cell? ⟨g, 2, none⟩ = some (.int .i64 wd) := by rw [cell_of_block kg]; rfl
        have c3 : w6.cell? ⟨g, 3, none⟩ = some (.int .u64 v) := by rw [cell_of_block kg]; rfl
        clear kg
        have K3 := hide (okind_any kd (unhide hfit).1 3 (by decide) (by decide))
        have KI := hide (okind_any id (unhide hfit).2.1 20 (by decide) (by decide))
        have K8 := hide (okind_any wd (unhide hfit).2.2.1 8 (by decide) (by decide))
        have K2 := hide (okind_any wd (unhide hfit).2.2.1 2 (by decide) (by decide))
        have HU : Hid (InU v) := (unhide hfit).2.2.2
        have h3 := kindN_lt kd 3 (by decide)
        obtain ⟨k3, hk3⟩ : ∃ k3, k3 = kindN kd 3 := ⟨_, rfl⟩
        obtain ⟨ki, hki⟩ : ∃ ki, ki = kindN id 20 := ⟨_, rfl⟩
        obtain ⟨k8, hk8⟩ : ∃ k8, k8 = kindN wd 8 := ⟨_, rfl⟩
        obtain ⟨k2, hk2⟩ : ∃ k2, k2 = kindN wd 2 := ⟨_, rfl⟩
        have b2 : k2 < 2 := by rw [hk2]; exact kindN_lt _ _ (by decide)
        have EN2 : Hid (F1 = (if k3 = 0 then S0.setS A0 (ki : Int) (k8 : Int) v else if k3 = 1 then S0.makeS A0 (1 + (k2 : Int)) else S0.endS (ki : Int), if k3 = 0 then S0.setM A0 (ki : Int) (k8 : Int) v else if k3 = 1 then S0.makeM A0 (1 + (k2 : Int)) else A0)) := by
          show _ = _; rw [hk3, hki, hk8, hk2]; exact unhide EN
        rw [← hk3] at K3 h3
        rw [← hki] at KI
        rw [← hk8] at K8
        rw [← hk2] at K2
        clear hk3 hki hk8 hk2 EN
        rcases (show k3 = 0 ∨ k3 = 1 ∨ k3 = 2 by omega) with rfl | rfl | rfl
        · have E0 : Hid (F1 = (S0.setS A0 (ki : Int) (k8 : Int) v, S0.setM A0 (ki : Int) (k8 : Int) v)) := unhide EN2
          have CS := hide (fun (w' : World) G (h : SHas W m b (fun A w G => Has W w G m A) S0 A0 w' G) => set_any (unhide M) h (unhide MS).ok (ok_mono (unhide AO) (by omega)) (ki : Int) (k8 : Int) v (unhide HU))
          clear EN2 K2 h3
          go_wp2_with fail
          refine (unhide K3 _).mono ?_
          rintro e w6 ⟨rfl, rfl⟩
          go_upto_region 16 with fail
          have O3 := hide ((unhide O2).drew (SHas.stay (unhide M) b _ _))
          refine wp_region_noPanic ?_
          refine wp_region_held_drew (S := fun w' => w'.cell? ⟨g, 1, none⟩ = some (.int .i64 id) ∧ w'.cell? ⟨g, 2, none⟩ = some (.int .i64 wd) ∧ w'.cell? ⟨g, 3, none⟩ = some (.int .u64 v)) (by kernel_rfl) ⟨c1, c2, c3⟩ (fun hHeld => ?_)
          clear c0 c1 c2 c3 O2 K3
          generalize w6.drew = w7 at *
          refine take_at 0 68 (v := ?_) rfl rfl (by kernel_rfl) (by kernel_rfl) (by kernel_rfl) (Or.inl ⟨by rfl, ?_⟩) hHeld ?_
          rotate_left
          · intro w hSw; go_simp; with_reducible rfl
          simp only [Act.put, List.setIfInBounds_toArray, List.set_cons_zero, List.set_cons_succ]
          refine take_at 1 69 (v := ?_) rfl rfl (by kernel_rfl) (by kernel_rfl) (by kernel_rfl) (Or.inl ⟨by rfl, ?_⟩) hHeld ?_
          rotate_left
          · intro w hSw; go_simp; with_reducible rfl
          simp only [Act.put, List.setIfInBounds_toArray, List.set_cons_zero, List.set_cons_succ]
          refine take_at 2 70 (v := ?_) rfl rfl (by kernel_rfl) (by kernel_rfl) (by kernel_rfl) (Or.inl ⟨by rfl, ?_⟩) hHeld ?_
          rotate_left
          · intro w hSw; obtain ⟨s1, s2, s3⟩ := hSw; go_simp; with_reducible rfl
          simp only [Act.put, List.setIfInBounds_toArray, List.set_cons_zero, List.set_cons_succ]
          refine take_at 4 72 (v := ?_) rfl rfl (by kernel_rfl) (by kernel_rfl) (by kernel_rfl) (Or.inl ⟨by rfl, ?_⟩) hHeld ?_
          rotate_left
          · intro w hSw; go_simp; with_reducible rfl
          simp only [Act.put, List.setIfInBounds_toArray, List.set_cons_zero, List.set_cons_succ]
          refine take_at 5 73 (v := ?_) rfl rfl (by kernel_rfl) (by kernel_rfl) (by kernel_rfl) (Or.inl ⟨by rfl, ?_⟩) hHeld ?_
          rotate_left
          · intro w hSw; obtain ⟨s1, s2, s3⟩ := hSw; go_simp; with_reducible rfl
          simp only [Act.put, List.setIfInBounds_toArray, List.set_cons_zero, List.set_cons_succ]
          refine take_at 7 75 (v := ?_) rfl rfl (by kernel_rfl) (by kernel_rfl) (by kernel_rfl) (Or.inl ⟨by rfl, ?_⟩) hHeld ?_
          rotate_left
          · intro w hSw; go_simp; with_reducible rfl
          simp only [Act.put, List.setIfInBounds_toArray, List.set_cons_zero, List.set_cons_succ]
          refine take_at 8 76 (v := ?_) rfl rfl (by kernel_rfl) (by kernel_rfl) (by kernel_rfl) (Or.inl ⟨by rfl, ?_⟩) hHeld ?_
          rotate_left
          · intro w hSw; obtain ⟨s1, s2, s3⟩ := hSw; go_simp; with_reducible rfl
          simp only [Act.put, List.setIfInBounds_toArray, List.set_cons_zero, List.set_cons_succ]
          refine wpAnyH_ready (rs := [3]) (by kernel_rfl) (by simp) ?_
          refine AllReadyH.cons rfl (fun K hK => ?_) AllReadyH.nil
          go_simp
          refine (unhide KI _).mono ?_
          rintro e w7 ⟨rfl, rfl⟩
          go_wp2_with fail
          refine hK.out _ _ hHeld (fun hNew => ?_)
          clear hK K hNew
          refine wpAnyH_ready (rs := [6]) (by kernel_rfl) (by simp) ?_
          refine AllReadyH.cons rfl (fun K hK => ?_) AllReadyH.nil
          go_simp
          refine (unhide K8 _).mono ?_
          rintro e w7 ⟨rfl, rfl⟩
          go_wp2_with fail
          refine hK.out _ _ hHeld (fun hNew => ?_)
          clear hK K hNew KI K8
          refine wpAnyH_ready (rs := [9]) (by kernel_rfl) (by simp) ?_
          refine AllReadyH.cons rfl (fun K hK => ?_) AllReadyH.nil
          go_simp
          refine (unhide CS _ _ (unhide O3).st).mono ?_
          rintro e w9 ⟨rfl, h1, h2⟩
          have O4 := hide ((unhide O3).call (St' := SHas W m b (fun A w G => Has W w G m A) (S0.setS A0 (ki : Int) (k8 : Int) v) (S0.setM A0 (ki : Int) (k8 : Int) v)) h1 h2)
          have kg := (unhide O4).at g (.cells #[.int .i64 kd, .int .i64 id, .int .i64 wd, .int .u64 v] 48) (by simp)
          generalize S0.setE A0 (ki : Int) (k8 : Int) v = E9 at *
          go_wp2_with fail
          clear hHeld
          refine hK.out _ _ ⟨by rw [cell_of_block kg]; rfl, by rw [cell_of_block kg]; rfl, by rw [cell_of_block kg]; rfl⟩ (fun hNew => ?_)
          clear hK K hNew h1 h2 O3 CS kg
          refine wpAnyH_done (by kernel_rfl) ?_ _
          refine NoPanic.normal ?_
          have O3 := O4
          clear O4
          have H4 : Hid (SHas W m b (fun A w G => Has W w G m A) (fS o (j + 1)).1 (fS o (j + 1)).2 w9 (fun _ => False)) := by
            show SHas _ _ _ _ _ _ _ _
            rw [← unhide HF1, unhide E0]
            exact ((unhide O3).done (SHas.stay (unhide M) b _ _) (.bool true)).2.1
          clear O3 E0 HF1
          go_wp2_with fail
          go_roundw
          case rel => exact ⟨j + 1, by omega, by go_num, unhide H4⟩
          case measure => simp [intOf]; omega
        · have E0 : Hid (F1 = (S0.makeS A0 (1 + (k2 : Int)), S0.makeM A0 (1 + (k2 : Int)))) := unhide EN2
          have CS := hide (make_any (unhide M) (unhide O2).st (unhide MS).ok (ok_mono (unhide AO) (by omega)) (1 + (k2 : Int)))
          clear EN2 KI K8 h3 c1 c3
          generalize S0.makeI A0 (1 + (k2 : Int)) = I9 at *
          generalize S0.makeE A0 (1 + (k2 : Int)) = E9 at *
          go_wp2_with fail
          refine (unhide K3 _).mono ?_
          rintro e w6 ⟨rfl, rfl⟩
          go_wp2_with fail
          refine (unhide K2 _).mono ?_
          rintro e w6 ⟨rfl, rfl⟩
          go_wp2_with fail
          refine (unhide CS).mono ?_
          rintro e w9 ⟨rfl, h1, h2⟩
          have O3 := hide ((unhide O2).call (St' := SHas W m b (fun A w G => Has W w G m A) (S0.makeS A0 (1 + (k2 : Int))) (S0.makeM A0 (1 + (k2 : Int)))) h1 h2)
          clear h1 h2 O2 CS K2 K3 c0 c2
          have H4 : Hid (SHas W m b (fun A w G => Has W w G m A) (fS o (j + 1)).1 (fS o (j + 1)).2 w9 (fun _ => False)) := by
            show SHas _ _ _ _ _ _ _ _
            rw [← unhide HF1, unhide E0]
            exact ((unhide O3).done (SHas.stay (unhide M) b _ _) (.bool true)).2.1
          clear O3 E0 HF1
          go_wp2_with fail
          go_roundw
          case rel => exact ⟨j + 1, by omega, by go_num, unhide H4⟩
          case measure => simp [intOf]; omega
        · have E0 : Hid (F1 = (S0.endS (ki : Int), A0)) := unhide EN2
          have CS := hide (end_obj (unhide M) (unhide O2).st (unhide MS).ok (ki : Int))
          clear EN2 K2 K8 h3 c2 c3
          generalize S0.findE (ki : Int) = E9 at *
          go_wp2_with fail
          refine (unhide K3 _).mono ?_
          rintro e w6 ⟨rfl, rfl⟩
          go_wp2_with fail
          refine (unhide KI _).mono ?_
          rintro e w6 ⟨rfl, rfl⟩
          go_wp2_with fail
          refine (unhide CS).mono ?_
          rintro e w9 ⟨rfl, h1, h2⟩
          have O3 := hide ((unhide O2).call (St' := SHas W m b (fun A w G => Has W w G m A) (S0.endS (ki : Int)) A0) h1 h2)
          clear h1 h2 O2 CS KI K3 c0 c1
          have H4 : Hid (SHas W m b (fun A w G => Has W w G m A) (fS o (j + 1)).1 (fS o (j + 1)).2 w9 (fun _ => False)) := by
            show SHas _ _ _ _ _ _ _ _
            rw [← unhide HF1, unhide E0]
            exact ((unhide O3).done (SHas.stay (unhide M) b _ _) (.bool true)).2.1
          clear O3 E0 HF1
          go_wp2_with fail
          go_roundw
          case rel => exact ⟨j + 1, by omega, by go_num, unhide H4⟩
          case measure => simp [intOf]; omega
    · have hjm : j = n60 := by omega
      have ST := hide (f_stands o j)
      generalize (fS o j).1 = X at *
      generalize (fS o j).2 = A at *
      have HJ := hide hjm
      by_cases hjn : (j : Int) < (n : Int)
      · have hge : ¬ ((j : Int) < 60) := by omega
        go_upto_region 21 with fail
        have CM := hide (mark_obj (unhide M) (unhide HH))
        have S1 := hide (unhide ST).mark
        have I1 := hide (mark_is X)
        generalize X.markE = E8 at *
        generalize X.markS = S0 at *
        clear hlt hj hjm ST HJ HO HV hmn hm60 hmm hn
        go_wp2_with fail
        refine (unhide CM).mono ?_
        rintro e w5 ⟨rfl, h1, -⟩
        have H1 := hide h1
        clear h1 CM HH
        go_wp2_with fail
        refine (dir_any w5).mono ?_
        rintro e w6 ⟨rfl, hb⟩
        have TS := hide (SHas.stay (unhide M) b S0 A)
        have H2 := hide ((unhide TS).bl _ _ _ (unhide H1) (Keeps.of_below hb))
        have O1 := hide ((Held.start (unhide TS) (unhide H2)).alloc (unhide TS) (.cells (dirV dirF) 25))
        clear hb H1 H2
        have Z8 := hide zero_dir8
        have s8 := s8_dir8 dirF
        have X8 := hide (dirV_one dirF)
        have SZ8 : Hid ((dirV (dirU 0)).size = (dirV dirF).size) := by show _ = _; rw [dirV_size, dirV_size]
        generalize hDF : dirV dirF = DF at *
        generalize dirV (dirU 0) = ZD at *
        have HDF := hide hDF
        clear hDF
        go_upto_region 23 with (first | (with_reducible refine wpList_allocZ (by with_unfolding_all rfl) 25 (by with_unfolding_all rfl) ZD (unhide Z8) ?_) | (with_reducible refine wpList_store_row (by with_unfolding_all rfl) 25 _ _ (by with_unfolding_all rfl) w6.heap.size DF (by with_unfolding_all rfl) (by with_unfolding_all rfl) 25 ZD (heap_new w6 _) s8 (unhide SZ8) (unhide X8) ?_; rw [setRow_alloc]))
        obtain ⟨g, hg⟩ : ∃ g, g = w6.heap.size := ⟨_, rfl⟩
        rw [← hg] at O1 ⊢
        clear hg
        generalize w6.alloc (.cells DF 25) = w7 at *
        rw [← unhide HDF] at O1
        clear HDF Z8 s8 X8 SZ8 TS
        have NE : Hid (∀ p ∈ ([] : List (Nat × Obj)), p.1 ≠ g) := by intro p hp; cases hp
        cases c with
        | true =>
          have O2 : Hid (Held W (SHas W m b (fun A w G => Has W w G m A) (tS S0 0) A) w6 w7 (fun _ => False) [(g, .cells (dirV (tD S0 0)) 25)]) := unhide O1
          clear O1
          go_wp2_with fail
          go_loopw [14, 15, 16] (fun q _ _ wr => ∃ j : Nat, j ≤ 8 ∧ q = .int .i64 j ∧ (∀ i, i < j → (tS S0 i).F.allocE = 0) ∧ Held W (SHas W m b (fun A w G => Has W w G m A) (tS S0 j) A) w6 wr (fun _ => False) [(g, .cells (dirV (tD S0 j)) 25)]) (fun q _ _ _ => 8 - (intOf q).toNat)
          case atStart => exact ⟨0, by omega, rfl, fun i hi => by omega, unhide O2⟩
          case round =>
            clear O2
            obtain ⟨j, hj, rfl, hal, hh⟩ := hrel
            have HH := hide hh
            have HAL := hide hal
            clear hh hal
            by_cases hlt : j < 8
            · have CT := hide (take_obj (unhide M) (unhide HH).st (t_stands (unhide S1) j).ok)
              by_cases hE : (tS S0 j).F.allocE = 0
              · have HE := hide hE
                rw [hE] at CT
                clear hE
                obtain ⟨V, hV⟩ : ∃ V, V = (tS S0 j).F.allocV := ⟨_, rfl⟩
                have ED : Hid (tD S0 (j + 1) = upd (tD S0 j) j V) := by show _ = _; rw [hV]; rfl
                rw [← hV] at CT
                clear hV
                have hlt' : (j : Int) < 8 := by omega
                go_wp2_with fail
                refine (unhide CT).mono ?_
                rintro e w8 ⟨rfl, h1, h2⟩
                have O3 : Hid (Held W (SHas W m b (fun A w G => Has W w G m A) (tS S0 (j + 1)) A) w6 w8 (fun _ => False) [(g, .cells (dirV (tD S0 j)) 25)]) := (unhide HH).call (St' := SHas W m b (fun A w G => Has W w G m A) (tS S0 (j + 1)) A) h1 h2
                have kg := (unhide O3).at g (.cells (dirV (tD S0 j)) 25) (by simp)
                have cg : w8.cell? ⟨g, j, none⟩ = some (.int .i64 (tD S0 j j)) := by rw [cell_of_block kg]; exact dirV_cell _ _ hlt
                have fg : w8.frozen? ⟨g, j, none⟩ = false := unfrozen_of_block kg _
                have O4 := hide ((unhide O3).cellHd (SHas.stay (unhide M) b _ _) (unhide NE) j (.int .i64 V))
                rw [dirV_set, ← unhide ED] at O4
                clear h1 h2 kg O3 HH CT ED
                generalize tD S0 j j = old at cg
                go_wp2_with fail
                go_roundw
                case rel => exact ⟨j + 1, by omega, by go_num, fun i hi => by
                  by_cases e : i = j
                  · rw [e]; exact unhide HE
                  · exact unhide HAL i (by omega), unhide O4⟩
                case measure => simp [intOf]; omega
              · have hEb : ((tS S0 j).F.allocE != 0) = true := by simpa using hE
                clear hE
                generalize (tS S0 j).F.allocE = E7 at *
                generalize (tS S0 j).F.allocV = V7 at *
                go_wp2_with fail
                refine (unhide CT).mono ?_
                rintro e w8 ⟨rfl, h1, h2⟩
                have HK : Hid (Keeps (fun _ => False) W w8) := (SHas.stay (unhide M) b _ _).sz _ _ h1
                clear h1 h2 CT HH
                go_wp2_with fail
                go_ret
                exact ⟨rfl, (unhide HK).below (Nat.le_refl _) (fun _ h => h.elim)⟩
            · have e8 : j = 8 := by omega
              rw [e8] at HH HAL
              have EN := hide (ends_c (t_stands (unhide S1) 8) (tD S0 8) (t_dir 8 (unhide HAL)))
              have EI : Hid ((tS S0 8).is = true) := by show _ = _; rw [(t_same S0 8).2.2.2]; exact unhide I1
              have CC := hide (commit_any (unhide M) (unhide HH).st (t_stands (unhide S1) 8).ok (tD S0 8))
              rw [(commit_is (unhide EI) (tD S0 8)).1, (commit_is (unhide EI) (tD S0 8)).2] at CC
              have KL := hide ((unhide HH).at g (.cells (dirV (tD S0 8)) 25) (by simp))
              have s8 := s8_dir8 (tD S0 8)
              have EU : Hid (tD S0 8 = (cU (tS S0 8) (tD S0 8)).d) := rfl
              have UV : Hid (∀ i, i < 49 → v24 ((cU (tS S0 8) (tD S0 8)).w i).v) := (t_stands (unhide S1) 8).ok.2
              generalize cU (tS S0 8) (tD S0 8) = U at *
              generalize tD S0 8 = D8 at *
              generalize hDV : dirV D8 = DV at *
              have HDV := hide hDV
              clear hDV
              go_upto_region 32 with fail
              clear hlt hj e8
              generalize (j : Int) = last at *
              go_wp2_with (with_reducible refine wpList_load_row (by with_unfolding_all rfl) 25 _ (by with_unfolding_all rfl) g (by with_unfolding_all rfl) _ _ _ _ (unhide KL) Try.underlying25 (by with_unfolding_all rfl) s8 ?_)
              refine (unhide CC).mono ?_
              rintro e w8 ⟨rfl, h1, h2⟩
              have O3 := hide ((unhide HH).call (St' := SHas W m b (fun A w G => Has W w G m A) U.freed A) h1 h2)
              rw [← unhide HDV, unhide EU] at O3
              clear h1 h2 CC HH KL s8 EU HDV EI HAL
              go_upto_region 35 with fail
              have TF := hide (SHas.stay (unhide M) b U.freed A)
              have CB : Hid (Calls Try.prog 22 #[.pointer (some ⟨b, 0, none⟩)] w8 fun e w' => e = .returned (.tuple #[.agg (tabV U.b), .agg (dirV U.d)]) ∧ Below w8.heap.size w8 w') := base_obj (S := U.freed) (unhide O3).st.rep
              have CT : Hid (∀ w', SRep m U.freed w' b → Calls Try.prog 27 #[.pointer (some ⟨b, 0, none⟩)] w' fun e w2 => e = .returned (.agg (tabV U.w)) ∧ Below w'.heap.size w' w2) := fun w' h => table_obj (S := U.freed) h
              have CL : Hid (∀ w', SRep m U.freed w' b → Calls Try.prog 28 #[.pointer (some ⟨b, 0, none⟩)] w' fun e w2 => e = .returned (.int .i64 (cnt U 100 : Int)) ∧ w2 = w') := fun w' h => by
                have := left_obj h ⟨freeTo_ok ⟨by rw [(unhide EN).lh.1, (unhide EN).lh.2]; decide, by rw [(unhide EN).lh.2]; decide, fun i => ((unhide EN).s2 i).imp id Or.inl⟩ _ _, unhide UV⟩
                rw [ends_left (unhide EN)] at this; exact this
              have s1 := s147_tab U.b
              have s2 := s147_tab U.w
              have s3 := s8_dir U.d
              have X1 := hide (tabV_one U.b)
              have X2 := hide (tabV_one U.w)
              have X3 := hide (dirV_one U.d)
              have Z1 := hide zero_tab
              have Z3 := hide zero_dir
              have SZ1 : Hid ((tabV fun _ => ze).size = (tabV U.b).size) := by show _ = _; rw [tabV_size, tabV_size]
              have SZ2 : Hid ((tabV fun _ => ze).size = (tabV U.w).size) := by show _ = _; rw [tabV_size, tabV_size]
              have SZ3 : Hid ((dirV fun _ => 0).size = (dirV U.d).size) := by show _ = _; rw [dirV_size, dirV_size]
              generalize (tabV fun _ => ze) = ZV at *
              generalize (dirV fun _ => 0) = ZW at *
              have CB2 : Hid (∀ i, i < 49 → (tabV U.b)[i * 3]? = some (.int .i64 (U.b i).k) ∧ (tabV U.b)[i * 3 + 2]? = some (.int .i64 (U.b i).l)) := fun i hi => ⟨by rw [tabV_cell _ _ (by omega), fl3_0], by rw [tabV_cell _ _ (by omega), fl3_2]⟩
              have CW2 : Hid (∀ i, i < 49 → (tabV U.w)[i * 3]? = some (.int .i64 (U.w i).k) ∧ (tabV U.w)[i * 3 + 2]? = some (.int .i64 (U.w i).l)) := fun i hi => ⟨by rw [tabV_cell _ _ (by omega), fl3_0], by rw [tabV_cell _ _ (by omega), fl3_2]⟩
              have CD2 : Hid (∀ i, i < 8 → (dirV U.d)[i]? = some (.int .i64 (U.d i))) := fun i hi => dirV_cell _ _ hi
              have EQD := hide (equal_dir U.d)
              have s8d := s8_dir8 U.d
              have s60d := s8_dir U.d
              generalize tabV U.b = TB at *
              generalize tabV U.w = TW at *
              generalize dirV U.d = DB at *
              go_wp2_with fail
              refine (unhide CB).mono ?_
              rintro e w9 ⟨rfl, hb⟩
              have O4 := hide ((unhide O3).below (unhide TF) hb)
              have kg9 := hide ((unhide O4).at g (.cells DB 25) (by simp))
              have rep9 := hide (unhide O4).st.rep
              have HK9 : Hid (Keeps (fun _ => False) W w9) := (unhide TF).sz _ _ (unhide O4).1
              have hb9 : b < w9.heap.size := (unhide O4).st.lt
              have hg9 : g < w9.heap.size := (unhide O4).lt (g, .cells DB 25) (by simp)
              have hsz : (w9.alloc (.cells ZV 59)).heap.size = w9.heap.size + 1 := by simp
              clear hb O3 O4 CB TF
              have K17 : Hid (((w9.alloc (.cells ZV 59)).alloc (.cells ZW 60)).heap[w9.heap.size]? = some (.cells ZV 59 (0, 0))) := (heap2 w9 _ _).1
              have K18 : Hid ((((w9.alloc (.cells ZV 59)).alloc (.cells ZW 60)).setRow w9.heap.size TB).heap[w9.heap.size + 1]? = some (.cells ZW 60 (0, 0))) := (setRow_other _ _ _ _ (by omega)).trans (heap2 w9 _ _).2
              have K18' : Hid ((((w9.alloc (.cells ZV 59)).alloc (.cells ZW 60)).setRow w9.heap.size TB).heap[(w9.alloc (.cells ZV 59)).heap.size]? = some (.cells ZW 60 (0, 0))) := by show _ = _; rw [hsz]; exact unhide K18
              have HSZ := hide hsz
              clear hsz
              go_upto_region 36 with (first | (with_reducible refine wpList_allocZ (by with_unfolding_all rfl) 59 (by with_unfolding_all rfl) ZV (unhide Z1) ?_) | (with_reducible refine wpList_allocZ (by with_unfolding_all rfl) 60 (by with_unfolding_all rfl) ZW (unhide Z3) ?_) | (with_reducible refine wpList_store_row (by with_unfolding_all rfl) 59 _ _ (by with_unfolding_all rfl) w9.heap.size TB (by with_unfolding_all rfl) (by with_unfolding_all rfl) 59 ZV (unhide K17) s1 (unhide SZ1) (unhide X1) ?_) | (with_reducible refine wpList_store_row (by with_unfolding_all rfl) 60 _ _ (by with_unfolding_all rfl) (w9.heap.size + 1) DB (by with_unfolding_all rfl) (by with_unfolding_all rfl) 60 ZW (unhide K18) s3 (unhide SZ3) (unhide X3) ?_) | (with_reducible refine wpList_store_row (by with_unfolding_all rfl) 60 _ _ (by with_unfolding_all rfl) (w9.alloc (.cells ZV 59)).heap.size DB (by with_unfolding_all rfl) (by with_unfolding_all rfl) 60 ZW (unhide K18') s3 (unhide SZ3) (unhide X3) ?_))
              try rw [unhide HSZ]
              obtain ⟨g17, hg17⟩ : ∃ g17, g17 = w9.heap.size := ⟨_, rfl⟩
              generalize hw : (((w9.alloc (.cells ZV 59)).alloc (.cells ZW 60)).setRow w9.heap.size TB).setRow (w9.heap.size + 1) DB = w10 at *
              have KP : Keeps (fun _ => False) w9 w10 := by
                rw [← hw]
                exact ((((Keeps.refl _ w9).alloc _).alloc _).setRow (Or.inr (Nat.le_refl _)) _).setRow (Or.inr (Nat.le_succ _)) _
              have r17 : w10.heap[g17]? = some (.cells TB 59 (0, 0)) := by
                rw [← hw, hg17]; exact (setRow_other _ _ _ _ (by omega)).trans (setRow_heap _ _ _ _ _ _ (unhide K17))
              have r18 : w10.heap[g17 + 1]? = some (.cells DB 60 (0, 0)) := by
                rw [← hw, hg17]; exact setRow_heap _ _ _ _ _ _ (unhide K18)
              have r12 : w10.heap[g]? = some (.cells DB 25 (0, 0)) := (KP.block g hg9 id).trans (unhide kg9)
              have rS : SRep m U.freed w10 b := Blk.keeps (unhide rep9) KP id
              have rK : Keeps (fun _ => False) W w10 := (unhide HK9).trans' KP
              have l17 : g17 + 1 < w10.heap.size := by
                rcases Nat.lt_or_ge (g17 + 1) w10.heap.size with h' | h'
                · exact h'
                · rw [Array.getElem?_eq_none h'] at r18; cases r18
              have lg : g < g17 := by omega
              have lb : b < g17 := by omega
              have R17 := hide r17
              have R18 := hide r18
              have R12 := hide r12
              have RS := hide rS
              have RK := hide rK
              have LTS := hide (And.intro l17 (And.intro lg lb))
              rw [← hg17]
              clear r17 r18 r12 rS rK l17 lg lb KP hw hg17 K17 K18 K18' HSZ kg9 rep9 HK9 hb9 hg9 s1 s3 X1 X3 Z3 SZ1 SZ3
              go_wp2_with fail
              refine (unhide CT _ (unhide RS)).mono ?_
              rintro e w11 ⟨rfl, hb⟩
              have HB := hide hb
              clear hb CT
              go_upto_region 37 with (first | (with_reducible refine wpList_allocZ (by with_unfolding_all rfl) 59 (by with_unfolding_all rfl) ZV (unhide Z1) ?_) | (with_reducible refine wpList_store_row (by with_unfolding_all rfl) 59 _ _ (by with_unfolding_all rfl) w11.heap.size TW (by with_unfolding_all rfl) (by with_unfolding_all rfl) 59 ZV (heap_new w11 _) s2 (unhide SZ2) (unhide X2) ?_; rw [setRow_alloc]))
              have r19 := hide (heap_new w11 (.cells TW 59))
              have KP : Hid (Keeps (fun _ => False) w10 (w11.alloc (.cells TW 59))) := (Keeps.of_below (unhide HB)).alloc _
              have LT19 : Hid (g17 + 1 < w11.heap.size) := by have := (unhide HB).size; have := (unhide LTS).1; show _ < _; omega
              obtain ⟨g19, hg19⟩ : ∃ g19, g19 = w11.heap.size := ⟨_, rfl⟩
              rw [← hg19] at r19 LT19 ⊢
              have L20 : Hid (g19 < (w11.alloc (.cells TW 59)).heap.size) := by show _ < _; simp; omega
              clear hg19 HB s2 X2 Z1 SZ2
              generalize w11.alloc (.cells TW 59) = w12 at *
              obtain ⟨i0, hi, hz0, hz1, hz2⟩ := info_parts info_boolO
              go_upto_region 38 with (at_make; refine wpList_make_full _ rfl _ _ 69 rfl w12.heap.size 4 i0 _ 1 Try.underlying69 hi hz0 hz1 .i64 .i64 _ _ 100 rfl rfl rfl rfl (by rw [hz2]; decide) (by decide) (Nat.le_refl _) ?_; intro w13 hown hgrow)
              have r20 : w13.heap[w12.heap.size]? = some (.cells (rowB fun _ => false) 4 (0, 0)) := made_tab rfl hown
              have KG : Keeps (fun _ => False) w12 w13 := Keeps.grown (Keeps.refl _ _) hgrow (fun k hk => by simp at hk)
              have KQ : Hid (Keeps (fun _ => False) w10 w13) := (unhide KP).trans' KG
              have R20 := hide r20
              have R19 : Hid (w13.heap[g19]? = some (.cells TW 59 (0, 0))) := (KG.block g19 (unhide L20) id).trans (unhide r19)
              have L19 : Hid (g19 < w12.heap.size) := unhide L20
              obtain ⟨gr, hgr⟩ : ∃ gr, gr = w12.heap.size := ⟨_, rfl⟩
              rw [← hgr] at R20 L19 ⊢
              have B17 : Hid (w13.heap[g17]? = some (.cells TB 59 (0, 0)) ∧ g17 ≠ gr) := ⟨((unhide KQ).block g17 (by have := (unhide LTS).1; omega) id).trans (unhide R17), by have := unhide L19; have := unhide LT19; omega⟩
              have B18 : Hid (w13.heap[g17 + 1]? = some (.cells DB 60 (0, 0)) ∧ g17 + 1 ≠ gr) := ⟨((unhide KQ).block (g17 + 1) (unhide LTS).1 id).trans (unhide R18), by have := unhide L19; have := unhide LT19; omega⟩
              have B19 : Hid (w13.heap[g19]? = some (.cells TW 59 (0, 0)) ∧ g19 ≠ gr) := ⟨unhide R19, by have := unhide L19; omega⟩
              have B12 : Hid (w13.heap[g]? = some (.cells DB 25 (0, 0)) ∧ g ≠ gr) := ⟨((unhide KQ).block g (by have := (unhide LTS).1; have := (unhide LTS).2.1; omega) id).trans (unhide R12), by have := unhide L19; have := unhide LT19; have := (unhide LTS).2.1; omega⟩
              have BS : Hid (SRep m U.freed w13 b ∧ b ≠ gr) := ⟨Blk.keeps (unhide RS) (unhide KQ) id, by have := unhide L19; have := unhide LT19; have := (unhide LTS).2.2; omega⟩
              have BK : Hid (Keeps (fun _ => False) W w13 ∧ W.heap.size ≤ gr) := ⟨(unhide RK).trans' (unhide KQ), by rw [hgr]; exact Nat.le_trans (unhide RK).size (unhide KP).size⟩
              clear hown hgrow r20 KG KQ KP r19 L20 L19 LT19 LTS R17 R18 R19 R12 RS RK hgr i0 hi hz0 hz1 hz2
              have DB3 : Hid (∀ i, i < 49 → ∀ w', Keeps (· = gr) w13 w' → w'.cell? ⟨g17, i * 3, none⟩ = some (.int .i64 (U.b i).k) ∧ w'.cell? ⟨g17, i * 3 + 2, none⟩ = some (.int .i64 (U.b i).l)) := fun i hi w' hk => by
                have h := (hk.block g17 (lt_heap (unhide B17).1) (unhide B17).2).trans (unhide B17).1
                exact ⟨by rw [cell_of_block h]; exact (unhide CB2 i hi).1, by rw [cell_of_block h]; exact (unhide CB2 i hi).2⟩
              have DW3 : Hid (∀ i, i < 49 → ∀ w', Keeps (· = gr) w13 w' → w'.cell? ⟨g19, i * 3, none⟩ = some (.int .i64 (U.w i).k) ∧ w'.cell? ⟨g19, i * 3 + 2, none⟩ = some (.int .i64 (U.w i).l)) := fun i hi w' hk => by
                have h := (hk.block g19 (lt_heap (unhide B19).1) (unhide B19).2).trans (unhide B19).1
                exact ⟨by rw [cell_of_block h]; exact (unhide CW2 i hi).1, by rw [cell_of_block h]; exact (unhide CW2 i hi).2⟩
              have DD3 : Hid (∀ i, i < 8 → ∀ w', Keeps (· = gr) w13 w' → w'.cell? ⟨g17 + 1, i, none⟩ = some (.int .i64 (U.d i))) := fun i hi w' hk => by
                have h := (hk.block (g17 + 1) (lt_heap (unhide B18).1) (unhide B18).2).trans (unhide B18).1
                rw [cell_of_block h]; exact unhide CD2 i hi
              have TKB : Hid (∀ i, i < 49 → (U.b i).k ≠ 0 → ∃ q : Nat, (U.b i).l = (q : Int) ∧ q < 100) := fun i hi hk => by
                have h := ((unhide EN).b i hi hk).1
                have h1 := h.1; have h2 := h.2
                rw [(unhide EN).lh.1] at h1; rw [(unhide EN).lh.2] at h2
                exact ⟨(U.b i).l.toNat, by omega, by omega⟩
              have TKW : Hid (∀ i, i < 49 → (U.w i).k ≠ 0 → ∃ q : Nat, (U.w i).l = (q : Int) ∧ q < 100) := fun i hi hk => by
                have h := ((unhide EN).w i hi hk).1
                have h1 := h.1; have h2 := h.2
                rw [(unhide EN).lh.1] at h1; rw [(unhide EN).lh.2] at h2
                exact ⟨(U.w i).l.toNat, by omega, by omega⟩
              have TKD : Hid (∀ i, i < 8 → ∃ q : Nat, U.d i = (q : Int) ∧ q < 100) := fun i hi => by
                have h := ((unhide EN).d i hi).1
                have h1 := h.1; have h2 := h.2
                rw [(unhide EN).lh.1] at h1; rw [(unhide EN).lh.2] at h2
                exact ⟨(U.d i).toNat, by omega, by omega⟩
              have R0 : Hid (w13.heap[gr]? = some (.cells (rowB (nmL U 0)) 4 (0, 0))) := unhide R20
              clear CB2 CW2 CD2 R20
              go_wp2_with fail
              go_loopw [21] (fun q wr => ∃ i : Nat, i ≤ 49 ∧ q = .int .i64 i ∧ Keeps (· = gr) w13 wr ∧ wr.heap[gr]? = some (.cells (rowB (nmL U i)) 4 (0, 0))) (fun q _ => 49 - (intOf q).toNat)
              case atStart => exact ⟨0, by omega, rfl, Keeps.refl _ _, unhide R0⟩
              case round =>
                clear R0
                obtain ⟨i, hi, rfl, hk, hr⟩ := hrel
                have HK := hide hk
                have HR := hide hr
                clear hk hr
                by_cases hlt : i < 49
                · have hlt' : (i : Int) < 49 := by omega
                  obtain ⟨c17k, c17l⟩ := unhide DB3 i hlt _ (unhide HK)
                  have NO := hide (nmH_out U i)
                  have NI := hide (nmH_in U i)
                  have PO := hide (nmL_out U i)
                  have PI := hide (nmL_in U i)
                  have TB1 := hide (unhide TKB i hlt)
                  have TW1 := hide (unhide TKW i hlt)
                  have DW1 := hide (unhide DW3 i hlt)
                  generalize (U.b i).k = kb at *
                  generalize (U.b i).l = lb at *
                  generalize (U.w i).k = kw at *
                  generalize (U.w i).l = lw at *
                  by_cases hkb : kb = 0
                  · have e := unhide NO hkb
                    rw [← e] at HR
                    subst hkb
                    clear NO NI TB1 e
                    go_upto_region 43 with fail
                    clear c17k c17l
                    have HKX := HK
                    clear HK
                    generalize wr = wx at *
                    obtain ⟨c19k, c19l⟩ := unhide DW1 _ (unhide HKX)
                    by_cases hkw : kw = 0
                    · have e := unhide PO hkw
                      rw [← e] at HR
                      subst hkw
                      clear PO PI TW1 e
                      go_wp2_with fail
                      go_roundw
                      case rel => exact ⟨i + 1, by omega, by go_num, unhide HKX, unhide HR⟩
                      case measure => simp [intOf]; omega
                    · obtain ⟨q2, rfl, hq2⟩ := unhide TW1 hkw
                      have hkw1 : (kw != 0) = true := by simpa using hkw
                      have e := unhide PI hkw
                      have cr : wx.cell? ⟨gr, q2, none⟩ = some (.bool (nmH U i q2)) := by rw [cell_of_block (unhide HR)]; exact rowB_get _ _ hq2
                      have fr : wx.frozen? ⟨gr, q2, none⟩ = false := unfrozen_of_block (unhide HR) _
                      have HR3 : Hid ((wx.setCell ⟨gr, q2, none⟩ (.bool true)).heap[gr]? = some (.cells (rowB (nmL U (i + 1))) 4 (0, 0))) := by
                        show _ = _; rw [block_setCell (unhide HR), rowB_put, e]
                      have HKY : Hid (Keeps (· = gr) w13 (wx.setCell ⟨gr, q2, none⟩ (.bool true))) := (unhide HKX).setCell (p := ⟨gr, q2, none⟩) rfl _
                      have hq2' : (q2 : Int) < 100 := by omega
                      generalize nmH U i q2 = old2 at cr
                      clear PO PI TW1 e hkw HR HKX
                      go_wp2_with fail
                      go_roundw
                      case rel => exact ⟨i + 1, by omega, by go_num, unhide HKY, unhide HR3⟩
                      case measure => simp [intOf]; omega
                  · obtain ⟨q, rfl, hq⟩ := unhide TB1 hkb
                    have hkb1 : (kb != 0) = true := by simpa using hkb
                    have e := unhide NI hkb
                    have cr : wr.cell? ⟨gr, q, none⟩ = some (.bool (nmL U i q)) := by rw [cell_of_block (unhide HR)]; exact rowB_get _ _ hq
                    have fr : wr.frozen? ⟨gr, q, none⟩ = false := unfrozen_of_block (unhide HR) _
                    have HR2 : Hid ((wr.setCell ⟨gr, q, none⟩ (.bool true)).heap[gr]? = some (.cells (rowB (nmH U i)) 4 (0, 0))) := by
                      show _ = _; rw [block_setCell (unhide HR), rowB_put, e]
                    have HKX : Hid (Keeps (· = gr) w13 (wr.setCell ⟨gr, q, none⟩ (.bool true))) := (unhide HK).setCell (p := ⟨gr, q, none⟩) rfl _
                    have hq' : (q : Int) < 100 := by omega
                    generalize nmL U i q = old at cr
                    clear NO NI TB1 e hkb HR HK
                    go_upto_region 43 with fail
                    clear cr fr c17k c17l hkb1
                    have HR := HR2
                    clear HR2
                    generalize wr.setCell ⟨gr, q, none⟩ (.bool true) = wx at *
                    obtain ⟨c19k, c19l⟩ := unhide DW1 _ (unhide HKX)
                    by_cases hkw : kw = 0
                    · have e := unhide PO hkw
                      rw [← e] at HR
                      subst hkw
                      clear PO PI TW1 e
                      go_wp2_with fail
                      go_roundw
                      case rel => exact ⟨i + 1, by omega, by go_num, unhide HKX, unhide HR⟩
                      case measure => simp [intOf]; omega
                    · obtain ⟨q2, rfl, hq2⟩ := unhide TW1 hkw
                      have hkw1 : (kw != 0) = true := by simpa using hkw
                      have e := unhide PI hkw
                      have cr : wx.cell? ⟨gr, q2, none⟩ = some (.bool (nmH U i q2)) := by rw [cell_of_block (unhide HR)]; exact rowB_get _ _ hq2
                      have fr : wx.frozen? ⟨gr, q2, none⟩ = false := unfrozen_of_block (unhide HR) _
                      have HR3 : Hid ((wx.setCell ⟨gr, q2, none⟩ (.bool true)).heap[gr]? = some (.cells (rowB (nmL U (i + 1))) 4 (0, 0))) := by
                        show _ = _; rw [block_setCell (unhide HR), rowB_put, e]
                      have HKY : Hid (Keeps (· = gr) w13 (wx.setCell ⟨gr, q2, none⟩ (.bool true))) := (unhide HKX).setCell (p := ⟨gr, q2, none⟩) rfl _
                      have hq2' : (q2 : Int) < 100 := by omega
                      generalize nmH U i q2 = old2 at cr
                      clear PO PI TW1 e hkw HR HKX
                      go_wp2_with fail
                      go_roundw
                      case rel => exact ⟨i + 1, by omega, by go_num, unhide HKY, unhide HR3⟩
                      case measure => simp [intOf]; omega
                · have e49 : i = 49 := by omega
                  rw [e49] at HR
                  have R1 : Hid (wr.heap[gr]? = some (.cells (rowB (nmA U 0)) 4 (0, 0))) := by rw [nmA_zero]; exact unhide HR
                  clear HR DB3 DW3 TKB TKW
                  go_upto_region 45 with fail
                  clear hlt hi e49
                  generalize (i : Int) = last at *
                  go_wp2_with fail
                  go_loopw [22] (fun q wr => ∃ i : Nat, i ≤ 8 ∧ q = .int .i64 i ∧ Keeps (· = gr) w13 wr ∧ wr.heap[gr]? = some (.cells (rowB (nmA U i)) 4 (0, 0))) (fun q _ => 8 - (intOf q).toNat)
                  case atStart => exact ⟨0, by omega, rfl, unhide HK, unhide R1⟩
                  case round =>
                    clear R1 HK
                    obtain ⟨i, hi, rfl, hk, hr⟩ := hrel
                    have HK := hide hk
                    have HR := hide hr
                    clear hk hr
                    by_cases hlt : i < 8
                    · have hlt' : (i : Int) < 8 := by omega
                      have c18 := unhide DD3 i hlt _ (unhide HK)
                      have e := nmA_next U i
                      obtain ⟨q, hqe, hq⟩ := unhide TKD i hlt
                      rw [hqe] at c18 e
                      have cr : wr.cell? ⟨gr, q, none⟩ = some (.bool (nmA U i q)) := by rw [cell_of_block (unhide HR)]; exact rowB_get _ _ hq
                      have fr : wr.frozen? ⟨gr, q, none⟩ = false := unfrozen_of_block (unhide HR) _
                      have HR2 : Hid ((wr.setCell ⟨gr, q, none⟩ (.bool true)).heap[gr]? = some (.cells (rowB (nmA U (i + 1))) 4 (0, 0))) := by
                        show _ = _; rw [block_setCell (unhide HR), rowB_put, e]
                      have HKX : Hid (Keeps (· = gr) w13 (wr.setCell ⟨gr, q, none⟩ (.bool true))) := (unhide HK).setCell (p := ⟨gr, q, none⟩) rfl _
                      have hq' : (q : Int) < 100 := by omega
                      generalize nmA U i q = old at cr
                      clear hqe e HR HK
                      go_wp2_with fail
                      go_roundw
                      case rel => exact ⟨i + 1, by omega, by go_num, unhide HKX, unhide HR2⟩
                      case measure => simp [intOf]; omega
                    · have e8 : i = 8 := by omega
                      rw [e8] at HR
                      have HNB : Hid (∀ z, z < 100 → 10 ≤ z → named U z = !nmA U 8 z) := fun z _ hz => by unfold named; rw [nmA_all, decide_eq_true hz, Bool.true_and]
                      clear DD3 TKD
                      go_upto_region 49 with fail
                      clear hlt hi e8
                      generalize (i : Int) = last2 at *
                      go_wp2_with fail
                      generalize wr = wz at *
                      have LFT := hide (unhide CL wz (Blk.keeps (unhide BS).1 (unhide HK) (fun e => (unhide BS).2 e)))
                      have K18 : Hid (wz.heap[g17 + 1]? = some (.cells DB 60 (0, 0))) := ((unhide HK).block (g17 + 1) (lt_heap (unhide B18).1) (unhide B18).2).trans (unhide B18).1
                      have K12 : Hid (wz.heap[g]? = some (.cells DB 25 (0, 0))) := ((unhide HK).block g (lt_heap (unhide B12).1) (unhide B12).2).trans (unhide B12).1
                      have KW : Hid (Below W.heap.size W wz) := by
                        have h1 := (unhide BK).1
                        have h2 := unhide HK
                        exact ⟨h2.os.trans h1.os, h2.tape.trans h1.tape, h2.output.trans h1.output, Nat.le_trans h1.size h2.size, fun k hk => (h2.block k (Nat.lt_of_lt_of_le hk h1.size) (fun e => by have := (unhide BK).2; omega)).trans (h1.block k hk id)⟩
                      have s60 := s60d
                      clear CL HK BS BK B12 B17 B18 B19
                      go_loopw [23, 24] (fun f q wr => ∃ i : Nat, 10 ≤ i ∧ i ≤ 100 ∧ q = .int .i64 i ∧ f = .int .i64 (cnt U i : Int) ∧ wr = wz) (fun _ q _ => 100 - (intOf q).toNat)
                      case atStart => exact ⟨10, by omega, by omega, rfl, by rw [cnt_ten]; rfl, rfl⟩
                      case round =>
                        obtain ⟨i, hi1, hi2, rfl, rfl, rfl⟩ := hrel
                        have hcl := cnt_le U i
                        by_cases hlt : i < 100
                        · have hlt' : (i : Int) < 100 := by omega
                          have cn := cnt_next U i
                          have nb := unhide HNB i hlt hi1
                          have cr : wr.cell? ⟨gr, i, none⟩ = some (.bool (nmA U 8 i)) := by rw [cell_of_block (unhide HR)]; exact rowB_get _ _ hlt
                          cases hb : nmA U 8 i with
                          | true =>
                            rw [hb] at nb cr
                            have HC : Hid (cnt U (i + 1) = cnt U i) := by show _ = _; rw [cn, nb]; rfl
                            clear cn nb hb
                            generalize cnt U i = ci at *
                            go_wp2_with fail
                            go_roundw
                            case rel => exact ⟨i + 1, by omega, by omega, by go_num, by rw [unhide HC], by trivial⟩
                            case measure => simp [intOf]; omega
                          | false =>
                            rw [hb] at nb cr
                            have HC : Hid (cnt U (i + 1) = cnt U i + 1) := by show _ = _; rw [cn, nb]; rfl
                            clear cn nb hb
                            generalize cnt U i = ci at *
                            go_wp2_with fail
                            go_roundw
                            case rel => exact ⟨i + 1, by omega, by omega, by go_num, by rw [unhide HC]; go_num, by trivial⟩
                            case measure => simp [intOf]; omega
                        · have e100 : i = 100 := by omega
                          rw [e100] at hcl
                          have EC : Hid (cnt U i = cnt U 100) := by show _ = _; rw [e100]
                          rw [unhide EC]
                          clear EC
                          generalize cnt U 100 = cc at *
                          go_wp2_with (first | (with_reducible refine wpList_load_row_g (by with_unfolding_all rfl) 60 (.tmp 18) (by with_unfolding_all rfl) (g17 + 1) (by with_unfolding_all rfl) _ _ _ _ (unhide K18) Try.underlying60 (by with_unfolding_all rfl) s60 ?_) | (with_reducible refine wpList_load_row_g (by with_unfolding_all rfl) 25 (.tmp 12) (by with_unfolding_all rfl) g (by with_unfolding_all rfl) _ _ _ _ (unhide K12) Try.underlying25 (by with_unfolding_all rfl) s8d ?_) | (with_reducible refine wpList_eqlA (by with_unfolding_all rfl) 60 60 (.tmp 175) (.tmp 176) (by with_unfolding_all rfl) DB DB (by with_unfolding_all rfl) (by with_unfolding_all rfl) dir_guard true (unhide EQD) ?_) | (go_at_call 28; refine (unhide LFT).mono ?_; rintro e wr ⟨rfl, rfl⟩))
                          go_ret
                          exact ⟨rfl, unhide KW⟩
        | false =>
          have CT := hide (take_obj (unhide M) (unhide O1).st (unhide S1).ok)
          generalize S0.F.allocE = E7 at *
          generalize S0.F.allocV = V7 at *
          go_wp2_with fail
          refine (unhide CT).mono ?_
          rintro e w8 ⟨rfl, h1, h2⟩
          have O2 := hide ((unhide O1).call (St' := SHas W m b (fun A w G => Has W w G m A) S0.took A) h1 h2)
          clear h1 h2 CT O1
          have ST : Hid (Stands S0.took) := t_stands (unhide S1) 1
          have EN := hide (ends_a (unhide ST))
          have EI : Hid (S0.took.is = true) := unhide I1
          have CC := hide (abort_any (unhide M) (unhide O2).st (unhide ST).ok)
          rw [(abort_is (unhide EI)).1, (abort_is (unhide EI)).2] at CC
          have EU : Hid (dirF = (aU S0.took).d) := (unhide ST).d.symm
          have UV : Hid (∀ i, i < 49 → v24 ((aU S0.took).w i).v) := (unhide ST).ok.2
          generalize aU S0.took = U at *
          go_wp2_with fail
          refine (unhide CC).mono ?_
          rintro e w9 ⟨rfl, h1, h2⟩
          have O3 := hide ((unhide O2).call (St' := SHas W m b (fun A w G => Has W w G m A) U.freed A) h1 h2)
          rw [unhide EU] at O3
          clear h1 h2 CC O2 EU EI ST
          generalize w9 = w8 at *
          go_upto_region 35 with fail
          have TF := hide (SHas.stay (unhide M) b U.freed A)
          have CB : Hid (Calls Try.prog 22 #[.pointer (some ⟨b, 0, none⟩)] w8 fun e w' => e = .returned (.tuple #[.agg (tabV U.b), .agg (dirV U.d)]) ∧ Below w8.heap.size w8 w') := base_obj (S := U.freed) (unhide O3).st.rep
          have CT : Hid (∀ w', SRep m U.freed w' b → Calls Try.prog 27 #[.pointer (some ⟨b, 0, none⟩)] w' fun e w2 => e = .returned (.agg (tabV U.w)) ∧ Below w'.heap.size w' w2) := fun w' h => table_obj (S := U.freed) h
          have CL : Hid (∀ w', SRep m U.freed w' b → Calls Try.prog 28 #[.pointer (some ⟨b, 0, none⟩)] w' fun e w2 => e = .returned (.int .i64 (cnt U 100 : Int)) ∧ w2 = w') := fun w' h => by
            have := left_obj h ⟨freeTo_ok ⟨by rw [(unhide EN).lh.1, (unhide EN).lh.2]; decide, by rw [(unhide EN).lh.2]; decide, fun i => ((unhide EN).s2 i).imp id Or.inl⟩ _ _, unhide UV⟩
            rw [ends_left (unhide EN)] at this; exact this
          have s1 := s147_tab U.b
          have s2 := s147_tab U.w
          have s3 := s8_dir U.d
          have X1 := hide (tabV_one U.b)
          have X2 := hide (tabV_one U.w)
          have X3 := hide (dirV_one U.d)
          have Z1 := hide zero_tab
          have Z3 := hide zero_dir
          have SZ1 : Hid ((tabV fun _ => ze).size = (tabV U.b).size) := by show _ = _; rw [tabV_size, tabV_size]
          have SZ2 : Hid ((tabV fun _ => ze).size = (tabV U.w).size) := by show _ = _; rw [tabV_size, tabV_size]
          have SZ3 : Hid ((dirV fun _ => 0).size = (dirV U.d).size) := by show _ = _; rw [dirV_size, dirV_size]
          generalize (tabV fun _ => ze) = ZV at *
          generalize (dirV fun _ => 0) = ZW at *
          have CB2 : Hid (∀ i, i < 49 → (tabV U.b)[i * 3]? = some (.int .i64 (U.b i).k) ∧ (tabV U.b)[i * 3 + 2]? = some (.int .i64 (U.b i).l)) := fun i hi => ⟨by rw [tabV_cell _ _ (by omega), fl3_0], by rw [tabV_cell _ _ (by omega), fl3_2]⟩
          have CW2 : Hid (∀ i, i < 49 → (tabV U.w)[i * 3]? = some (.int .i64 (U.w i).k) ∧ (tabV U.w)[i * 3 + 2]? = some (.int .i64 (U.w i).l)) := fun i hi => ⟨by rw [tabV_cell _ _ (by omega), fl3_0], by rw [tabV_cell _ _ (by omega), fl3_2]⟩
          have CD2 : Hid (∀ i, i < 8 → (dirV U.d)[i]? = some (.int .i64 (U.d i))) := fun i hi => dirV_cell _ _ hi
          have EQD := hide (equal_dir U.d)
          have s8d := s8_dir8 U.d
          have s60d := s8_dir U.d
          generalize tabV U.b = TB at *
          generalize tabV U.w = TW at *
          generalize dirV U.d = DB at *
          go_wp2_with fail
          refine (unhide CB).mono ?_
          rintro e w9 ⟨rfl, hb⟩
          have O4 := hide ((unhide O3).below (unhide TF) hb)
          have kg9 := hide ((unhide O4).at g (.cells DB 25) (by simp))
          have rep9 := hide (unhide O4).st.rep
          have HK9 : Hid (Keeps (fun _ => False) W w9) := (unhide TF).sz _ _ (unhide O4).1
          have hb9 : b < w9.heap.size := (unhide O4).st.lt
          have hg9 : g < w9.heap.size := (unhide O4).lt (g, .cells DB 25) (by simp)
          have hsz : (w9.alloc (.cells ZV 59)).heap.size = w9.heap.size + 1 := by simp
          clear hb O3 O4 CB TF
          have K17 : Hid (((w9.alloc (.cells ZV 59)).alloc (.cells ZW 60)).heap[w9.heap.size]? = some (.cells ZV 59 (0, 0))) := (heap2 w9 _ _).1
          have K18 : Hid ((((w9.alloc (.cells ZV 59)).alloc (.cells ZW 60)).setRow w9.heap.size TB).heap[w9.heap.size + 1]? = some (.cells ZW 60 (0, 0))) := (setRow_other _ _ _ _ (by omega)).trans (heap2 w9 _ _).2
          have K18' : Hid ((((w9.alloc (.cells ZV 59)).alloc (.cells ZW 60)).setRow w9.heap.size TB).heap[(w9.alloc (.cells ZV 59)).heap.size]? = some (.cells ZW 60 (0, 0))) := by show _ = _; rw [hsz]; exact unhide K18
          have HSZ := hide hsz
          clear hsz
          go_upto_region 36 with (first | (with_reducible refine wpList_allocZ (by with_unfolding_all rfl) 59 (by with_unfolding_all rfl) ZV (unhide Z1) ?_) | (with_reducible refine wpList_allocZ (by with_unfolding_all rfl) 60 (by with_unfolding_all rfl) ZW (unhide Z3) ?_) | (with_reducible refine wpList_store_row (by with_unfolding_all rfl) 59 _ _ (by with_unfolding_all rfl) w9.heap.size TB (by with_unfolding_all rfl) (by with_unfolding_all rfl) 59 ZV (unhide K17) s1 (unhide SZ1) (unhide X1) ?_) | (with_reducible refine wpList_store_row (by with_unfolding_all rfl) 60 _ _ (by with_unfolding_all rfl) (w9.heap.size + 1) DB (by with_unfolding_all rfl) (by with_unfolding_all rfl) 60 ZW (unhide K18) s3 (unhide SZ3) (unhide X3) ?_) | (with_reducible refine wpList_store_row (by with_unfolding_all rfl) 60 _ _ (by with_unfolding_all rfl) (w9.alloc (.cells ZV 59)).heap.size DB (by with_unfolding_all rfl) (by with_unfolding_all rfl) 60 ZW (unhide K18') s3 (unhide SZ3) (unhide X3) ?_))
          try rw [unhide HSZ]
          obtain ⟨g17, hg17⟩ : ∃ g17, g17 = w9.heap.size := ⟨_, rfl⟩
          generalize hw : (((w9.alloc (.cells ZV 59)).alloc (.cells ZW 60)).setRow w9.heap.size TB).setRow (w9.heap.size + 1) DB = w10 at *
          have KP : Keeps (fun _ => False) w9 w10 := by
            rw [← hw]
            exact ((((Keeps.refl _ w9).alloc _).alloc _).setRow (Or.inr (Nat.le_refl _)) _).setRow (Or.inr (Nat.le_succ _)) _
          have r17 : w10.heap[g17]? = some (.cells TB 59 (0, 0)) := by
            rw [← hw, hg17]; exact (setRow_other _ _ _ _ (by omega)).trans (setRow_heap _ _ _ _ _ _ (unhide K17))
          have r18 : w10.heap[g17 + 1]? = some (.cells DB 60 (0, 0)) := by
            rw [← hw, hg17]; exact setRow_heap _ _ _ _ _ _ (unhide K18)
          have r12 : w10.heap[g]? = some (.cells DB 25 (0, 0)) := (KP.block g hg9 id).trans (unhide kg9)
          have rS : SRep m U.freed w10 b := Blk.keeps (unhide rep9) KP id
          have rK : Keeps (fun _ => False) W w10 := (unhide HK9).trans' KP
          have l17 : g17 + 1 < w10.heap.size := by
            rcases Nat.lt_or_ge (g17 + 1) w10.heap.size with h' | h'
            · exact h'
            · rw [Array.getElem?_eq_none h'] at r18; cases r18
          have lg : g < g17 := by omega
          have lb : b < g17 := by omega
          have R17 := hide r17
          have R18 := hide r18
          have R12 := hide r12
          have RS := hide rS
          have RK := hide rK
          have LTS := hide (And.intro l17 (And.intro lg lb))
          rw [← hg17]
          clear r17 r18 r12 rS rK l17 lg lb KP hw hg17 K17 K18 K18' HSZ kg9 rep9 HK9 hb9 hg9 s1 s3 X1 X3 Z3 SZ1 SZ3
          go_wp2_with fail
          refine (unhide CT _ (unhide RS)).mono ?_
          rintro e w11 ⟨rfl, hb⟩
          have HB := hide hb
          clear hb CT
          go_upto_region 37 with (first | (with_reducible refine wpList_allocZ (by with_unfolding_all rfl) 59 (by with_unfolding_all rfl) ZV (unhide Z1) ?_) | (with_reducible refine wpList_store_row (by with_unfolding_all rfl) 59 _ _ (by with_unfolding_all rfl) w11.heap.size TW (by with_unfolding_all rfl) (by with_unfolding_all rfl) 59 ZV (heap_new w11 _) s2 (unhide SZ2) (unhide X2) ?_; rw [setRow_alloc]))
          have r19 := hide (heap_new w11 (.cells TW 59))
          have KP : Hid (Keeps (fun _ => False) w10 (w11.alloc (.cells TW 59))) := (Keeps.of_below (unhide HB)).alloc _
          have LT19 : Hid (g17 + 1 < w11.heap.size) := by have := (unhide HB).size; have := (unhide LTS).1; show _ < _; omega
          obtain ⟨g19, hg19⟩ : ∃ g19, g19 = w11.heap.size := ⟨_, rfl⟩
          rw [← hg19] at r19 LT19 ⊢
          have L20 : Hid (g19 < (w11.alloc (.cells TW 59)).heap.size) := by show _ < _; simp; omega
          clear hg19 HB s2 X2 Z1 SZ2
          generalize w11.alloc (.cells TW 59) = w12 at *
          obtain ⟨i0, hi, hz0, hz1, hz2⟩ := info_parts info_boolO
          go_upto_region 38 with (at_make; refine wpList_make_full _ rfl _ _ 69 rfl w12.heap.size 4 i0 _ 1 Try.underlying69 hi hz0 hz1 .i64 .i64 _ _ 100 rfl rfl rfl rfl (by rw [hz2]; decide) (by decide) (Nat.le_refl _) ?_; intro w13 hown hgrow)
          have r20 : w13.heap[w12.heap.size]? = some (.cells (rowB fun _ => false) 4 (0, 0)) := made_tab rfl hown
          have KG : Keeps (fun _ => False) w12 w13 := Keeps.grown (Keeps.refl _ _) hgrow (fun k hk => by simp at hk)
          have KQ : Hid (Keeps (fun _ => False) w10 w13) := (unhide KP).trans' KG
          have R20 := hide r20
          have R19 : Hid (w13.heap[g19]? = some (.cells TW 59 (0, 0))) := (KG.block g19 (unhide L20) id).trans (unhide r19)
          have L19 : Hid (g19 < w12.heap.size) := unhide L20
          obtain ⟨gr, hgr⟩ : ∃ gr, gr = w12.heap.size := ⟨_, rfl⟩
          rw [← hgr] at R20 L19 ⊢
          have B17 : Hid (w13.heap[g17]? = some (.cells TB 59 (0, 0)) ∧ g17 ≠ gr) := ⟨((unhide KQ).block g17 (by have := (unhide LTS).1; omega) id).trans (unhide R17), by have := unhide L19; have := unhide LT19; omega⟩
          have B18 : Hid (w13.heap[g17 + 1]? = some (.cells DB 60 (0, 0)) ∧ g17 + 1 ≠ gr) := ⟨((unhide KQ).block (g17 + 1) (unhide LTS).1 id).trans (unhide R18), by have := unhide L19; have := unhide LT19; omega⟩
          have B19 : Hid (w13.heap[g19]? = some (.cells TW 59 (0, 0)) ∧ g19 ≠ gr) := ⟨unhide R19, by have := unhide L19; omega⟩
          have B12 : Hid (w13.heap[g]? = some (.cells DB 25 (0, 0)) ∧ g ≠ gr) := ⟨((unhide KQ).block g (by have := (unhide LTS).1; have := (unhide LTS).2.1; omega) id).trans (unhide R12), by have := unhide L19; have := unhide LT19; have := (unhide LTS).2.1; omega⟩
          have BS : Hid (SRep m U.freed w13 b ∧ b ≠ gr) := ⟨Blk.keeps (unhide RS) (unhide KQ) id, by have := unhide L19; have := unhide LT19; have := (unhide LTS).2.2; omega⟩
          have BK : Hid (Keeps (fun _ => False) W w13 ∧ W.heap.size ≤ gr) := ⟨(unhide RK).trans' (unhide KQ), by rw [hgr]; exact Nat.le_trans (unhide RK).size (unhide KP).size⟩
          clear hown hgrow r20 KG KQ KP r19 L20 L19 LT19 LTS R17 R18 R19 R12 RS RK hgr i0 hi hz0 hz1 hz2
          have DB3 : Hid (∀ i, i < 49 → ∀ w', Keeps (· = gr) w13 w' → w'.cell? ⟨g17, i * 3, none⟩ = some (.int .i64 (U.b i).k) ∧ w'.cell? ⟨g17, i * 3 + 2, none⟩ = some (.int .i64 (U.b i).l)) := fun i hi w' hk => by
            have h := (hk.block g17 (lt_heap (unhide B17).1) (unhide B17).2).trans (unhide B17).1
            exact ⟨by rw [cell_of_block h]; exact (unhide CB2 i hi).1, by rw [cell_of_block h]; exact (unhide CB2 i hi).2⟩
          have DW3 : Hid (∀ i, i < 49 → ∀ w', Keeps (· = gr) w13 w' → w'.cell? ⟨g19, i * 3, none⟩ = some (.int .i64 (U.w i).k) ∧ w'.cell? ⟨g19, i * 3 + 2, none⟩ = some (.int .i64 (U.w i).l)) := fun i hi w' hk => by
            have h := (hk.block g19 (lt_heap (unhide B19).1) (unhide B19).2).trans (unhide B19).1
            exact ⟨by rw [cell_of_block h]; exact (unhide CW2 i hi).1, by rw [cell_of_block h]; exact (unhide CW2 i hi).2⟩
          have DD3 : Hid (∀ i, i < 8 → ∀ w', Keeps (· = gr) w13 w' → w'.cell? ⟨g17 + 1, i, none⟩ = some (.int .i64 (U.d i))) := fun i hi w' hk => by
            have h := (hk.block (g17 + 1) (lt_heap (unhide B18).1) (unhide B18).2).trans (unhide B18).1
            rw [cell_of_block h]; exact unhide CD2 i hi
          have TKB : Hid (∀ i, i < 49 → (U.b i).k ≠ 0 → ∃ q : Nat, (U.b i).l = (q : Int) ∧ q < 100) := fun i hi hk => by
            have h := ((unhide EN).b i hi hk).1
            have h1 := h.1; have h2 := h.2
            rw [(unhide EN).lh.1] at h1; rw [(unhide EN).lh.2] at h2
            exact ⟨(U.b i).l.toNat, by omega, by omega⟩
          have TKW : Hid (∀ i, i < 49 → (U.w i).k ≠ 0 → ∃ q : Nat, (U.w i).l = (q : Int) ∧ q < 100) := fun i hi hk => by
            have h := ((unhide EN).w i hi hk).1
            have h1 := h.1; have h2 := h.2
            rw [(unhide EN).lh.1] at h1; rw [(unhide EN).lh.2] at h2
            exact ⟨(U.w i).l.toNat, by omega, by omega⟩
          have TKD : Hid (∀ i, i < 8 → ∃ q : Nat, U.d i = (q : Int) ∧ q < 100) := fun i hi => by
            have h := ((unhide EN).d i hi).1
            have h1 := h.1; have h2 := h.2
            rw [(unhide EN).lh.1] at h1; rw [(unhide EN).lh.2] at h2
            exact ⟨(U.d i).toNat, by omega, by omega⟩
          have R0 : Hid (w13.heap[gr]? = some (.cells (rowB (nmL U 0)) 4 (0, 0))) := unhide R20
          clear CB2 CW2 CD2 R20
          go_wp2_with fail
          go_loopw [21] (fun q wr => ∃ i : Nat, i ≤ 49 ∧ q = .int .i64 i ∧ Keeps (· = gr) w13 wr ∧ wr.heap[gr]? = some (.cells (rowB (nmL U i)) 4 (0, 0))) (fun q _ => 49 - (intOf q).toNat)
          case atStart => exact ⟨0, by omega, rfl, Keeps.refl _ _, unhide R0⟩
          case round =>
            clear R0
            obtain ⟨i, hi, rfl, hk, hr⟩ := hrel
            have HK := hide hk
            have HR := hide hr
            clear hk hr
            by_cases hlt : i < 49
            · have hlt' : (i : Int) < 49 := by omega
              obtain ⟨c17k, c17l⟩ := unhide DB3 i hlt _ (unhide HK)
              have NO := hide (nmH_out U i)
              have NI := hide (nmH_in U i)
              have PO := hide (nmL_out U i)
              have PI := hide (nmL_in U i)
              have TB1 := hide (unhide TKB i hlt)
              have TW1 := hide (unhide TKW i hlt)
              have DW1 := hide (unhide DW3 i hlt)
              generalize (U.b i).k = kb at *
              generalize (U.b i).l = lb at *
              generalize (U.w i).k = kw at *
              generalize (U.w i).l = lw at *
              by_cases hkb : kb = 0
              · have e := unhide NO hkb
                rw [← e] at HR
                subst hkb
                clear NO NI TB1 e
                go_upto_region 43 with fail
                clear c17k c17l
                have HKX := HK
                clear HK
                generalize wr = wx at *
                obtain ⟨c19k, c19l⟩ := unhide DW1 _ (unhide HKX)
                by_cases hkw : kw = 0
                · have e := unhide PO hkw
                  rw [← e] at HR
                  subst hkw
                  clear PO PI TW1 e
                  go_wp2_with fail
                  go_roundw
                  case rel => exact ⟨i + 1, by omega, by go_num, unhide HKX, unhide HR⟩
                  case measure => simp [intOf]; omega
                · obtain ⟨q2, rfl, hq2⟩ := unhide TW1 hkw
                  have hkw1 : (kw != 0) = true := by simpa using hkw
                  have e := unhide PI hkw
                  have cr : wx.cell? ⟨gr, q2, none⟩ = some (.bool (nmH U i q2)) := by rw [cell_of_block (unhide HR)]; exact rowB_get _ _ hq2
                  have fr : wx.frozen? ⟨gr, q2, none⟩ = false := unfrozen_of_block (unhide HR) _
                  have HR3 : Hid ((wx.setCell ⟨gr, q2, none⟩ (.bool true)).heap[gr]? = some (.cells (rowB (nmL U (i + 1))) 4 (0, 0))) := by
                    show _ = _; rw [block_setCell (unhide HR), rowB_put, e]
                  have HKY : Hid (Keeps (· = gr) w13 (wx.setCell ⟨gr, q2, none⟩ (.bool true))) := (unhide HKX).setCell (p := ⟨gr, q2, none⟩) rfl _
                  have hq2' : (q2 : Int) < 100 := by omega
                  generalize nmH U i q2 = old2 at cr
                  clear PO PI TW1 e hkw HR HKX
                  go_wp2_with fail
                  go_roundw
                  case rel => exact ⟨i + 1, by omega, by go_num, unhide HKY, unhide HR3⟩
                  case measure => simp [intOf]; omega
              · obtain ⟨q, rfl, hq⟩ := unhide TB1 hkb
                have hkb1 : (kb != 0) = true := by simpa using hkb
                have e := unhide NI hkb
                have cr : wr.cell? ⟨gr, q, none⟩ = some (.bool (nmL U i q)) := by rw [cell_of_block (unhide HR)]; exact rowB_get _ _ hq
                have fr : wr.frozen? ⟨gr, q, none⟩ = false := unfrozen_of_block (unhide HR) _
                have HR2 : Hid ((wr.setCell ⟨gr, q, none⟩ (.bool true)).heap[gr]? = some (.cells (rowB (nmH U i)) 4 (0, 0))) := by
                  show _ = _; rw [block_setCell (unhide HR), rowB_put, e]
                have HKX : Hid (Keeps (· = gr) w13 (wr.setCell ⟨gr, q, none⟩ (.bool true))) := (unhide HK).setCell (p := ⟨gr, q, none⟩) rfl _
                have hq' : (q : Int) < 100 := by omega
                generalize nmL U i q = old at cr
                clear NO NI TB1 e hkb HR HK
                go_upto_region 43 with fail
                clear cr fr c17k c17l hkb1
                have HR := HR2
                clear HR2
                generalize wr.setCell ⟨gr, q, none⟩ (.bool true) = wx at *
                obtain ⟨c19k, c19l⟩ := unhide DW1 _ (unhide HKX)
                by_cases hkw : kw = 0
                · have e := unhide PO hkw
                  rw [← e] at HR
                  subst hkw
                  clear PO PI TW1 e
                  go_wp2_with fail
                  go_roundw
                  case rel => exact ⟨i + 1, by omega, by go_num, unhide HKX, unhide HR⟩
                  case measure => simp [intOf]; omega
                · obtain ⟨q2, rfl, hq2⟩ := unhide TW1 hkw
                  have hkw1 : (kw != 0) = true := by simpa using hkw
                  have e := unhide PI hkw
                  have cr : wx.cell? ⟨gr, q2, none⟩ = some (.bool (nmH U i q2)) := by rw [cell_of_block (unhide HR)]; exact rowB_get _ _ hq2
                  have fr : wx.frozen? ⟨gr, q2, none⟩ = false := unfrozen_of_block (unhide HR) _
                  have HR3 : Hid ((wx.setCell ⟨gr, q2, none⟩ (.bool true)).heap[gr]? = some (.cells (rowB (nmL U (i + 1))) 4 (0, 0))) := by
                    show _ = _; rw [block_setCell (unhide HR), rowB_put, e]
                  have HKY : Hid (Keeps (· = gr) w13 (wx.setCell ⟨gr, q2, none⟩ (.bool true))) := (unhide HKX).setCell (p := ⟨gr, q2, none⟩) rfl _
                  have hq2' : (q2 : Int) < 100 := by omega
                  generalize nmH U i q2 = old2 at cr
                  clear PO PI TW1 e hkw HR HKX
                  go_wp2_with fail
                  go_roundw
                  case rel => exact ⟨i + 1, by omega, by go_num, unhide HKY, unhide HR3⟩
                  case measure => simp [intOf]; omega
            · have e49 : i = 49 := by omega
              rw [e49] at HR
              have R1 : Hid (wr.heap[gr]? = some (.cells (rowB (nmA U 0)) 4 (0, 0))) := by rw [nmA_zero]; exact unhide HR
              clear HR DB3 DW3 TKB TKW
              go_upto_region 45 with fail
              clear hlt hi e49
              generalize (i : Int) = last at *
              go_wp2_with fail
              go_loopw [22] (fun q wr => ∃ i : Nat, i ≤ 8 ∧ q = .int .i64 i ∧ Keeps (· = gr) w13 wr ∧ wr.heap[gr]? = some (.cells (rowB (nmA U i)) 4 (0, 0))) (fun q _ => 8 - (intOf q).toNat)
              case atStart => exact ⟨0, by omega, rfl, unhide HK, unhide R1⟩
              case round =>
                clear R1 HK
                obtain ⟨i, hi, rfl, hk, hr⟩ := hrel
                have HK := hide hk
                have HR := hide hr
                clear hk hr
                by_cases hlt : i < 8
                · have hlt' : (i : Int) < 8 := by omega
                  have c18 := unhide DD3 i hlt _ (unhide HK)
                  have e := nmA_next U i
                  obtain ⟨q, hqe, hq⟩ := unhide TKD i hlt
                  rw [hqe] at c18 e
                  have cr : wr.cell? ⟨gr, q, none⟩ = some (.bool (nmA U i q)) := by rw [cell_of_block (unhide HR)]; exact rowB_get _ _ hq
                  have fr : wr.frozen? ⟨gr, q, none⟩ = false := unfrozen_of_block (unhide HR) _
                  have HR2 : Hid ((wr.setCell ⟨gr, q, none⟩ (.bool true)).heap[gr]? = some (.cells (rowB (nmA U (i + 1))) 4 (0, 0))) := by
                    show _ = _; rw [block_setCell (unhide HR), rowB_put, e]
                  have HKX : Hid (Keeps (· = gr) w13 (wr.setCell ⟨gr, q, none⟩ (.bool true))) := (unhide HK).setCell (p := ⟨gr, q, none⟩) rfl _
                  have hq' : (q : Int) < 100 := by omega
                  generalize nmA U i q = old at cr
                  clear hqe e HR HK
                  go_wp2_with fail
                  go_roundw
                  case rel => exact ⟨i + 1, by omega, by go_num, unhide HKX, unhide HR2⟩
                  case measure => simp [intOf]; omega
                · have e8 : i = 8 := by omega
                  rw [e8] at HR
                  have HNB : Hid (∀ z, z < 100 → 10 ≤ z → named U z = !nmA U 8 z) := fun z _ hz => by unfold named; rw [nmA_all, decide_eq_true hz, Bool.true_and]
                  clear DD3 TKD
                  go_upto_region 49 with fail
                  clear hlt hi e8
                  generalize (i : Int) = last2 at *
                  go_wp2_with fail
                  generalize wr = wz at *
                  have LFT := hide (unhide CL wz (Blk.keeps (unhide BS).1 (unhide HK) (fun e => (unhide BS).2 e)))
                  have K18 : Hid (wz.heap[g17 + 1]? = some (.cells DB 60 (0, 0))) := ((unhide HK).block (g17 + 1) (lt_heap (unhide B18).1) (unhide B18).2).trans (unhide B18).1
                  have K12 : Hid (wz.heap[g]? = some (.cells DB 25 (0, 0))) := ((unhide HK).block g (lt_heap (unhide B12).1) (unhide B12).2).trans (unhide B12).1
                  have KW : Hid (Below W.heap.size W wz) := by
                    have h1 := (unhide BK).1
                    have h2 := unhide HK
                    exact ⟨h2.os.trans h1.os, h2.tape.trans h1.tape, h2.output.trans h1.output, Nat.le_trans h1.size h2.size, fun k hk => (h2.block k (Nat.lt_of_lt_of_le hk h1.size) (fun e => by have := (unhide BK).2; omega)).trans (h1.block k hk id)⟩
                  have s60 := s60d
                  clear CL HK BS BK B12 B17 B18 B19
                  go_loopw [23, 24] (fun f q wr => ∃ i : Nat, 10 ≤ i ∧ i ≤ 100 ∧ q = .int .i64 i ∧ f = .int .i64 (cnt U i : Int) ∧ wr = wz) (fun _ q _ => 100 - (intOf q).toNat)
                  case atStart => exact ⟨10, by omega, by omega, rfl, by rw [cnt_ten]; rfl, rfl⟩
                  case round =>
                    obtain ⟨i, hi1, hi2, rfl, rfl, rfl⟩ := hrel
                    have hcl := cnt_le U i
                    by_cases hlt : i < 100
                    · have hlt' : (i : Int) < 100 := by omega
                      have cn := cnt_next U i
                      have nb := unhide HNB i hlt hi1
                      have cr : wr.cell? ⟨gr, i, none⟩ = some (.bool (nmA U 8 i)) := by rw [cell_of_block (unhide HR)]; exact rowB_get _ _ hlt
                      cases hb : nmA U 8 i with
                      | true =>
                        rw [hb] at nb cr
                        have HC : Hid (cnt U (i + 1) = cnt U i) := by show _ = _; rw [cn, nb]; rfl
                        clear cn nb hb
                        generalize cnt U i = ci at *
                        go_wp2_with fail
                        go_roundw
                        case rel => exact ⟨i + 1, by omega, by omega, by go_num, by rw [unhide HC], by trivial⟩
                        case measure => simp [intOf]; omega
                      | false =>
                        rw [hb] at nb cr
                        have HC : Hid (cnt U (i + 1) = cnt U i + 1) := by show _ = _; rw [cn, nb]; rfl
                        clear cn nb hb
                        generalize cnt U i = ci at *
                        go_wp2_with fail
                        go_roundw
                        case rel => exact ⟨i + 1, by omega, by omega, by go_num, by rw [unhide HC]; go_num, by trivial⟩
                        case measure => simp [intOf]; omega
                    · have e100 : i = 100 := by omega
                      rw [e100] at hcl
                      have EC : Hid (cnt U i = cnt U 100) := by show _ = _; rw [e100]
                      rw [unhide EC]
                      clear EC
                      generalize cnt U 100 = cc at *
                      go_wp2_with (first | (with_reducible refine wpList_load_row_g (by with_unfolding_all rfl) 60 (.tmp 18) (by with_unfolding_all rfl) (g17 + 1) (by with_unfolding_all rfl) _ _ _ _ (unhide K18) Try.underlying60 (by with_unfolding_all rfl) s60 ?_) | (with_reducible refine wpList_load_row_g (by with_unfolding_all rfl) 25 (.tmp 12) (by with_unfolding_all rfl) g (by with_unfolding_all rfl) _ _ _ _ (unhide K12) Try.underlying25 (by with_unfolding_all rfl) s8d ?_) | (with_reducible refine wpList_eqlA (by with_unfolding_all rfl) 60 60 (.tmp 175) (.tmp 176) (by with_unfolding_all rfl) DB DB (by with_unfolding_all rfl) (by with_unfolding_all rfl) dir_guard true (unhide EQD) ?_) | (go_at_call 28; refine (unhide LFT).mono ?_; rintro e wr ⟨rfl, rfl⟩))
                      go_ret
                      exact ⟨rfl, unhide KW⟩
      · go_upto_region 21 with fail
        have CM := hide (mark_obj (unhide M) (unhide HH))
        have S1 := hide (unhide ST).mark
        have I1 := hide (mark_is X)
        generalize X.markE = E8 at *
        generalize X.markS = S0 at *
        clear hlt hj hjm ST HJ HO HV hmn hm60 hmm hn
        go_wp2_with fail
        refine (unhide CM).mono ?_
        rintro e w5 ⟨rfl, h1, -⟩
        have H1 := hide h1
        clear h1 CM HH
        go_wp2_with fail
        refine (dir_any w5).mono ?_
        rintro e w6 ⟨rfl, hb⟩
        have TS := hide (SHas.stay (unhide M) b S0 A)
        have H2 := hide ((unhide TS).bl _ _ _ (unhide H1) (Keeps.of_below hb))
        have O1 := hide ((Held.start (unhide TS) (unhide H2)).alloc (unhide TS) (.cells (dirV dirF) 25))
        clear hb H1 H2
        have Z8 := hide zero_dir8
        have s8 := s8_dir8 dirF
        have X8 := hide (dirV_one dirF)
        have SZ8 : Hid ((dirV (dirU 0)).size = (dirV dirF).size) := by show _ = _; rw [dirV_size, dirV_size]
        generalize hDF : dirV dirF = DF at *
        generalize dirV (dirU 0) = ZD at *
        have HDF := hide hDF
        clear hDF
        go_upto_region 23 with (first | (with_reducible refine wpList_allocZ (by with_unfolding_all rfl) 25 (by with_unfolding_all rfl) ZD (unhide Z8) ?_) | (with_reducible refine wpList_store_row (by with_unfolding_all rfl) 25 _ _ (by with_unfolding_all rfl) w6.heap.size DF (by with_unfolding_all rfl) (by with_unfolding_all rfl) 25 ZD (heap_new w6 _) s8 (unhide SZ8) (unhide X8) ?_; rw [setRow_alloc]))
        obtain ⟨g, hg⟩ : ∃ g, g = w6.heap.size := ⟨_, rfl⟩
        rw [← hg] at O1 ⊢
        clear hg
        generalize w6.alloc (.cells DF 25) = w7 at *
        rw [← unhide HDF] at O1
        clear HDF Z8 s8 X8 SZ8 TS
        have NE : Hid (∀ p ∈ ([] : List (Nat × Obj)), p.1 ≠ g) := by intro p hp; cases hp
        cases c with
        | true =>
          have O2 : Hid (Held W (SHas W m b (fun A w G => Has W w G m A) (tS S0 0) A) w6 w7 (fun _ => False) [(g, .cells (dirV (tD S0 0)) 25)]) := unhide O1
          clear O1
          go_wp2_with fail
          go_loopw [14, 15, 16] (fun q _ _ wr => ∃ j : Nat, j ≤ 8 ∧ q = .int .i64 j ∧ (∀ i, i < j → (tS S0 i).F.allocE = 0) ∧ Held W (SHas W m b (fun A w G => Has W w G m A) (tS S0 j) A) w6 wr (fun _ => False) [(g, .cells (dirV (tD S0 j)) 25)]) (fun q _ _ _ => 8 - (intOf q).toNat)
          case atStart => exact ⟨0, by omega, rfl, fun i hi => by omega, unhide O2⟩
          case round =>
            clear O2
            obtain ⟨j, hj, rfl, hal, hh⟩ := hrel
            have HH := hide hh
            have HAL := hide hal
            clear hh hal
            by_cases hlt : j < 8
            · have CT := hide (take_obj (unhide M) (unhide HH).st (t_stands (unhide S1) j).ok)
              by_cases hE : (tS S0 j).F.allocE = 0
              · have HE := hide hE
                rw [hE] at CT
                clear hE
                obtain ⟨V, hV⟩ : ∃ V, V = (tS S0 j).F.allocV := ⟨_, rfl⟩
                have ED : Hid (tD S0 (j + 1) = upd (tD S0 j) j V) := by show _ = _; rw [hV]; rfl
                rw [← hV] at CT
                clear hV
                have hlt' : (j : Int) < 8 := by omega
                go_wp2_with fail
                refine (unhide CT).mono ?_
                rintro e w8 ⟨rfl, h1, h2⟩
                have O3 : Hid (Held W (SHas W m b (fun A w G => Has W w G m A) (tS S0 (j + 1)) A) w6 w8 (fun _ => False) [(g, .cells (dirV (tD S0 j)) 25)]) := (unhide HH).call (St' := SHas W m b (fun A w G => Has W w G m A) (tS S0 (j + 1)) A) h1 h2
                have kg := (unhide O3).at g (.cells (dirV (tD S0 j)) 25) (by simp)
                have cg : w8.cell? ⟨g, j, none⟩ = some (.int .i64 (tD S0 j j)) := by rw [cell_of_block kg]; exact dirV_cell _ _ hlt
                have fg : w8.frozen? ⟨g, j, none⟩ = false := unfrozen_of_block kg _
                have O4 := hide ((unhide O3).cellHd (SHas.stay (unhide M) b _ _) (unhide NE) j (.int .i64 V))
                rw [dirV_set, ← unhide ED] at O4
                clear h1 h2 kg O3 HH CT ED
                generalize tD S0 j j = old at cg
                go_wp2_with fail
                go_roundw
                case rel => exact ⟨j + 1, by omega, by go_num, fun i hi => by
                  by_cases e : i = j
                  · rw [e]; exact unhide HE
                  · exact unhide HAL i (by omega), unhide O4⟩
                case measure => simp [intOf]; omega
              · have hEb : ((tS S0 j).F.allocE != 0) = true := by simpa using hE
                clear hE
                generalize (tS S0 j).F.allocE = E7 at *
                generalize (tS S0 j).F.allocV = V7 at *
                go_wp2_with fail
                refine (unhide CT).mono ?_
                rintro e w8 ⟨rfl, h1, h2⟩
                have HK : Hid (Keeps (fun _ => False) W w8) := (SHas.stay (unhide M) b _ _).sz _ _ h1
                clear h1 h2 CT HH
                go_wp2_with fail
                go_ret
                exact ⟨rfl, (unhide HK).below (Nat.le_refl _) (fun _ h => h.elim)⟩
            · have e8 : j = 8 := by omega
              rw [e8] at HH HAL
              have EN := hide (ends_c (t_stands (unhide S1) 8) (tD S0 8) (t_dir 8 (unhide HAL)))
              have EI : Hid ((tS S0 8).is = true) := by show _ = _; rw [(t_same S0 8).2.2.2]; exact unhide I1
              have CC := hide (commit_any (unhide M) (unhide HH).st (t_stands (unhide S1) 8).ok (tD S0 8))
              rw [(commit_is (unhide EI) (tD S0 8)).1, (commit_is (unhide EI) (tD S0 8)).2] at CC
              have KL := hide ((unhide HH).at g (.cells (dirV (tD S0 8)) 25) (by simp))
              have s8 := s8_dir8 (tD S0 8)
              have EU : Hid (tD S0 8 = (cU (tS S0 8) (tD S0 8)).d) := rfl
              have UV : Hid (∀ i, i < 49 → v24 ((cU (tS S0 8) (tD S0 8)).w i).v) := (t_stands (unhide S1) 8).ok.2
              generalize cU (tS S0 8) (tD S0 8) = U at *
              generalize tD S0 8 = D8 at *
              generalize hDV : dirV D8 = DV at *
              have HDV := hide hDV
              clear hDV
              go_upto_region 32 with fail
              clear hlt hj e8
              generalize (j : Int) = last at *
              go_wp2_with (with_reducible refine wpList_load_row (by with_unfolding_all rfl) 25 _ (by with_unfolding_all rfl) g (by with_unfolding_all rfl) _ _ _ _ (unhide KL) Try.underlying25 (by with_unfolding_all rfl) s8 ?_)
              refine (unhide CC).mono ?_
              rintro e w8 ⟨rfl, h1, h2⟩
              have O3 := hide ((unhide HH).call (St' := SHas W m b (fun A w G => Has W w G m A) U.freed A) h1 h2)
              rw [← unhide HDV, unhide EU] at O3
              clear h1 h2 CC HH KL s8 EU HDV EI HAL
              go_upto_region 35 with fail
              have TF := hide (SHas.stay (unhide M) b U.freed A)
              have CB : Hid (Calls Try.prog 22 #[.pointer (some ⟨b, 0, none⟩)] w8 fun e w' => e = .returned (.tuple #[.agg (tabV U.b), .agg (dirV U.d)]) ∧ Below w8.heap.size w8 w') := base_obj (S := U.freed) (unhide O3).st.rep
              have CT : Hid (∀ w', SRep m U.freed w' b → Calls Try.prog 27 #[.pointer (some ⟨b, 0, none⟩)] w' fun e w2 => e = .returned (.agg (tabV U.w)) ∧ Below w'.heap.size w' w2) := fun w' h => table_obj (S := U.freed) h
              have CL : Hid (∀ w', SRep m U.freed w' b → Calls Try.prog 28 #[.pointer (some ⟨b, 0, none⟩)] w' fun e w2 => e = .returned (.int .i64 (cnt U 100 : Int)) ∧ w2 = w') := fun w' h => by
                have := left_obj h ⟨freeTo_ok ⟨by rw [(unhide EN).lh.1, (unhide EN).lh.2]; decide, by rw [(unhide EN).lh.2]; decide, fun i => ((unhide EN).s2 i).imp id Or.inl⟩ _ _, unhide UV⟩
                rw [ends_left (unhide EN)] at this; exact this
              have s1 := s147_tab U.b
              have s2 := s147_tab U.w
              have s3 := s8_dir U.d
              have X1 := hide (tabV_one U.b)
              have X2 := hide (tabV_one U.w)
              have X3 := hide (dirV_one U.d)
              have Z1 := hide zero_tab
              have Z3 := hide zero_dir
              have SZ1 : Hid ((tabV fun _ => ze).size = (tabV U.b).size) := by show _ = _; rw [tabV_size, tabV_size]
              have SZ2 : Hid ((tabV fun _ => ze).size = (tabV U.w).size) := by show _ = _; rw [tabV_size, tabV_size]
              have SZ3 : Hid ((dirV fun _ => 0).size = (dirV U.d).size) := by show _ = _; rw [dirV_size, dirV_size]
              generalize (tabV fun _ => ze) = ZV at *
              generalize (dirV fun _ => 0) = ZW at *
              have CB2 : Hid (∀ i, i < 49 → (tabV U.b)[i * 3]? = some (.int .i64 (U.b i).k) ∧ (tabV U.b)[i * 3 + 2]? = some (.int .i64 (U.b i).l)) := fun i hi => ⟨by rw [tabV_cell _ _ (by omega), fl3_0], by rw [tabV_cell _ _ (by omega), fl3_2]⟩
              have CW2 : Hid (∀ i, i < 49 → (tabV U.w)[i * 3]? = some (.int .i64 (U.w i).k) ∧ (tabV U.w)[i * 3 + 2]? = some (.int .i64 (U.w i).l)) := fun i hi => ⟨by rw [tabV_cell _ _ (by omega), fl3_0], by rw [tabV_cell _ _ (by omega), fl3_2]⟩
              have CD2 : Hid (∀ i, i < 8 → (dirV U.d)[i]? = some (.int .i64 (U.d i))) := fun i hi => dirV_cell _ _ hi
              have EQD := hide (equal_dir U.d)
              have s8d := s8_dir8 U.d
              have s60d := s8_dir U.d
              generalize tabV U.b = TB at *
              generalize tabV U.w = TW at *
              generalize dirV U.d = DB at *
              go_wp2_with fail
              refine (unhide CB).mono ?_
              rintro e w9 ⟨rfl, hb⟩
              have O4 := hide ((unhide O3).below (unhide TF) hb)
              have kg9 := hide ((unhide O4).at g (.cells DB 25) (by simp))
              have rep9 := hide (unhide O4).st.rep
              have HK9 : Hid (Keeps (fun _ => False) W w9) := (unhide TF).sz _ _ (unhide O4).1
              have hb9 : b < w9.heap.size := (unhide O4).st.lt
              have hg9 : g < w9.heap.size := (unhide O4).lt (g, .cells DB 25) (by simp)
              have hsz : (w9.alloc (.cells ZV 59)).heap.size = w9.heap.size + 1 := by simp
              clear hb O3 O4 CB TF
              have K17 : Hid (((w9.alloc (.cells ZV 59)).alloc (.cells ZW 60)).heap[w9.heap.size]? = some (.cells ZV 59 (0, 0))) := (heap2 w9 _ _).1
              have K18 : Hid ((((w9.alloc (.cells ZV 59)).alloc (.cells ZW 60)).setRow w9.heap.size TB).heap[w9.heap.size + 1]? = some (.cells ZW 60 (0, 0))) := (setRow_other _ _ _ _ (by omega)).trans (heap2 w9 _ _).2
              have K18' : Hid ((((w9.alloc (.cells ZV 59)).alloc (.cells ZW 60)).setRow w9.heap.size TB).heap[(w9.alloc (.cells ZV 59)).heap.size]? = some (.cells ZW 60 (0, 0))) := by show _ = _; rw [hsz]; exact unhide K18
              have HSZ := hide hsz
              clear hsz
              go_upto_region 36 with (first | (with_reducible refine wpList_allocZ (by with_unfolding_all rfl) 59 (by with_unfolding_all rfl) ZV (unhide Z1) ?_) | (with_reducible refine wpList_allocZ (by with_unfolding_all rfl) 60 (by with_unfolding_all rfl) ZW (unhide Z3) ?_) | (with_reducible refine wpList_store_row (by with_unfolding_all rfl) 59 _ _ (by with_unfolding_all rfl) w9.heap.size TB (by with_unfolding_all rfl) (by with_unfolding_all rfl) 59 ZV (unhide K17) s1 (unhide SZ1) (unhide X1) ?_) | (with_reducible refine wpList_store_row (by with_unfolding_all rfl) 60 _ _ (by with_unfolding_all rfl) (w9.heap.size + 1) DB (by with_unfolding_all rfl) (by with_unfolding_all rfl) 60 ZW (unhide K18) s3 (unhide SZ3) (unhide X3) ?_) | (with_reducible refine wpList_store_row (by with_unfolding_all rfl) 60 _ _ (by with_unfolding_all rfl) (w9.alloc (.cells ZV 59)).heap.size DB (by with_unfolding_all rfl) (by with_unfolding_all rfl) 60 ZW (unhide K18') s3 (unhide SZ3) (unhide X3) ?_))
              try rw [unhide HSZ]
              obtain ⟨g17, hg17⟩ : ∃ g17, g17 = w9.heap.size := ⟨_, rfl⟩
              generalize hw : (((w9.alloc (.cells ZV 59)).alloc (.cells ZW 60)).setRow w9.heap.size TB).setRow (w9.heap.size + 1) DB = w10 at *
              have KP : Keeps (fun _ => False) w9 w10 := by
                rw [← hw]
                exact ((((Keeps.refl _ w9).alloc _).alloc _).setRow (Or.inr (Nat.le_refl _)) _).setRow (Or.inr (Nat.le_succ _)) _
              have r17 : w10.heap[g17]? = some (.cells TB 59 (0, 0)) := by
                rw [← hw, hg17]; exact (setRow_other _ _ _ _ (by omega)).trans (setRow_heap _ _ _ _ _ _ (unhide K17))
              have r18 : w10.heap[g17 + 1]? = some (.cells DB 60 (0, 0)) := by
                rw [← hw, hg17]; exact setRow_heap _ _ _ _ _ _ (unhide K18)
              have r12 : w10.heap[g]? = some (.cells DB 25 (0, 0)) := (KP.block g hg9 id).trans (unhide kg9)
              have rS : SRep m U.freed w10 b := Blk.keeps (unhide rep9) KP id
              have rK : Keeps (fun _ => False) W w10 := (unhide HK9).trans' KP
              have l17 : g17 + 1 < w10.heap.size := by
                rcases Nat.lt_or_ge (g17 + 1) w10.heap.size with h' | h'
                · exact h'
                · rw [Array.getElem?_eq_none h'] at r18; cases r18
              have lg : g < g17 := by omega
              have lb : b < g17 := by omega
              have R17 := hide r17
              have R18 := hide r18
              have R12 := hide r12
              have RS := hide rS
              have RK := hide rK
              have LTS := hide (And.intro l17 (And.intro lg lb))
              rw [← hg17]
              clear r17 r18 r12 rS rK l17 lg lb KP hw hg17 K17 K18 K18' HSZ kg9 rep9 HK9 hb9 hg9 s1 s3 X1 X3 Z3 SZ1 SZ3
              go_wp2_with fail
              refine (unhide CT _ (unhide RS)).mono ?_
              rintro e w11 ⟨rfl, hb⟩
              have HB := hide hb
              clear hb CT
              go_upto_region 37 with (first | (with_reducible refine wpList_allocZ (by with_unfolding_all rfl) 59 (by with_unfolding_all rfl) ZV (unhide Z1) ?_) | (with_reducible refine wpList_store_row (by with_unfolding_all rfl) 59 _ _ (by with_unfolding_all rfl) w11.heap.size TW (by with_unfolding_all rfl) (by with_unfolding_all rfl) 59 ZV (heap_new w11 _) s2 (unhide SZ2) (unhide X2) ?_; rw [setRow_alloc]))
              have r19 := hide (heap_new w11 (.cells TW 59))
              have KP : Hid (Keeps (fun _ => False) w10 (w11.alloc (.cells TW 59))) := (Keeps.of_below (unhide HB)).alloc _
              have LT19 : Hid (g17 + 1 < w11.heap.size) := by have := (unhide HB).size; have := (unhide LTS).1; show _ < _; omega
              obtain ⟨g19, hg19⟩ : ∃ g19, g19 = w11.heap.size := ⟨_, rfl⟩
              rw [← hg19] at r19 LT19 ⊢
              have L20 : Hid (g19 < (w11.alloc (.cells TW 59)).heap.size) := by show _ < _; simp; omega
              clear hg19 HB s2 X2 Z1 SZ2
              generalize w11.alloc (.cells TW 59) = w12 at *
              obtain ⟨i0, hi, hz0, hz1, hz2⟩ := info_parts info_boolO
              go_upto_region 38 with (at_make; refine wpList_make_full _ rfl _ _ 69 rfl w12.heap.size 4 i0 _ 1 Try.underlying69 hi hz0 hz1 .i64 .i64 _ _ 100 rfl rfl rfl rfl (by rw [hz2]; decide) (by decide) (Nat.le_refl _) ?_; intro w13 hown hgrow)
              have r20 : w13.heap[w12.heap.size]? = some (.cells (rowB fun _ => false) 4 (0, 0)) := made_tab rfl hown
              have KG : Keeps (fun _ => False) w12 w13 := Keeps.grown (Keeps.refl _ _) hgrow (fun k hk => by simp at hk)
              have KQ : Hid (Keeps (fun _ => False) w10 w13) := (unhide KP).trans' KG
              have R20 := hide r20
              have R19 : Hid (w13.heap[g19]? = some (.cells TW 59 (0, 0))) := (KG.block g19 (unhide L20) id).trans (unhide r19)
              have L19 : Hid (g19 < w12.heap.size) := unhide L20
              obtain ⟨gr, hgr⟩ : ∃ gr, gr = w12.heap.size := ⟨_, rfl⟩
              rw [← hgr] at R20 L19 ⊢
              have B17 : Hid (w13.heap[g17]? = some (.cells TB 59 (0, 0)) ∧ g17 ≠ gr) := ⟨((unhide KQ).block g17 (by have := (unhide LTS).1; omega) id).trans (unhide R17), by have := unhide L19; have := unhide LT19; omega⟩
              have B18 : Hid (w13.heap[g17 + 1]? = some (.cells DB 60 (0, 0)) ∧ g17 + 1 ≠ gr) := ⟨((unhide KQ).block (g17 + 1) (unhide LTS).1 id).trans (unhide R18), by have := unhide L19; have := unhide LT19; omega⟩
              have B19 : Hid (w13.heap[g19]? = some (.cells TW 59 (0, 0)) ∧ g19 ≠ gr) := ⟨unhide R19, by have := unhide L19; omega⟩
              have B12 : Hid (w13.heap[g]? = some (.cells DB 25 (0, 0)) ∧ g ≠ gr) := ⟨((unhide KQ).block g (by have := (unhide LTS).1; have := (unhide LTS).2.1; omega) id).trans (unhide R12), by have := unhide L19; have := unhide LT19; have := (unhide LTS).2.1; omega⟩
              have BS : Hid (SRep m U.freed w13 b ∧ b ≠ gr) := ⟨Blk.keeps (unhide RS) (unhide KQ) id, by have := unhide L19; have := unhide LT19; have := (unhide LTS).2.2; omega⟩
              have BK : Hid (Keeps (fun _ => False) W w13 ∧ W.heap.size ≤ gr) := ⟨(unhide RK).trans' (unhide KQ), by rw [hgr]; exact Nat.le_trans (unhide RK).size (unhide KP).size⟩
              clear hown hgrow r20 KG KQ KP r19 L20 L19 LT19 LTS R17 R18 R19 R12 RS RK hgr i0 hi hz0 hz1 hz2
              have DB3 : Hid (∀ i, i < 49 → ∀ w', Keeps (· = gr) w13 w' → w'.cell? ⟨g17, i * 3, none⟩ = some (.int .i64 (U.b i).k) ∧ w'.cell? ⟨g17, i * 3 + 2, none⟩ = some (.int .i64 (U.b i).l)) := fun i hi w' hk => by
                have h := (hk.block g17 (lt_heap (unhide B17).1) (unhide B17).2).trans (unhide B17).1
                exact ⟨by rw [cell_of_block h]; exact (unhide CB2 i hi).1, by rw [cell_of_block h]; exact (unhide CB2 i hi).2⟩
              have DW3 : Hid (∀ i, i < 49 → ∀ w', Keeps (· = gr) w13 w' → w'.cell? ⟨g19, i * 3, none⟩ = some (.int .i64 (U.w i).k) ∧ w'.cell? ⟨g19, i * 3 + 2, none⟩ = some (.int .i64 (U.w i).l)) := fun i hi w' hk => by
                have h := (hk.block g19 (lt_heap (unhide B19).1) (unhide B19).2).trans (unhide B19).1
                exact ⟨by rw [cell_of_block h]; exact (unhide CW2 i hi).1, by rw [cell_of_block h]; exact (unhide CW2 i hi).2⟩
              have DD3 : Hid (∀ i, i < 8 → ∀ w', Keeps (· = gr) w13 w' → w'.cell? ⟨g17 + 1, i, none⟩ = some (.int .i64 (U.d i))) := fun i hi w' hk => by
                have h := (hk.block (g17 + 1) (lt_heap (unhide B18).1) (unhide B18).2).trans (unhide B18).1
                rw [cell_of_block h]; exact unhide CD2 i hi
              have TKB : Hid (∀ i, i < 49 → (U.b i).k ≠ 0 → ∃ q : Nat, (U.b i).l = (q : Int) ∧ q < 100) := fun i hi hk => by
                have h := ((unhide EN).b i hi hk).1
                have h1 := h.1; have h2 := h.2
                rw [(unhide EN).lh.1] at h1; rw [(unhide EN).lh.2] at h2
                exact ⟨(U.b i).l.toNat, by omega, by omega⟩
              have TKW : Hid (∀ i, i < 49 → (U.w i).k ≠ 0 → ∃ q : Nat, (U.w i).l = (q : Int) ∧ q < 100) := fun i hi hk => by
                have h := ((unhide EN).w i hi hk).1
                have h1 := h.1; have h2 := h.2
                rw [(unhide EN).lh.1] at h1; rw [(unhide EN).lh.2] at h2
                exact ⟨(U.w i).l.toNat, by omega, by omega⟩
              have TKD : Hid (∀ i, i < 8 → ∃ q : Nat, U.d i = (q : Int) ∧ q < 100) := fun i hi => by
                have h := ((unhide EN).d i hi).1
                have h1 := h.1; have h2 := h.2
                rw [(unhide EN).lh.1] at h1; rw [(unhide EN).lh.2] at h2
                exact ⟨(U.d i).toNat, by omega, by omega⟩
              have R0 : Hid (w13.heap[gr]? = some (.cells (rowB (nmL U 0)) 4 (0, 0))) := unhide R20
              clear CB2 CW2 CD2 R20
              go_wp2_with fail
              go_loopw [21] (fun q wr => ∃ i : Nat, i ≤ 49 ∧ q = .int .i64 i ∧ Keeps (· = gr) w13 wr ∧ wr.heap[gr]? = some (.cells (rowB (nmL U i)) 4 (0, 0))) (fun q _ => 49 - (intOf q).toNat)
              case atStart => exact ⟨0, by omega, rfl, Keeps.refl _ _, unhide R0⟩
              case round =>
                clear R0
                obtain ⟨i, hi, rfl, hk, hr⟩ := hrel
                have HK := hide hk
                have HR := hide hr
                clear hk hr
                by_cases hlt : i < 49
                · have hlt' : (i : Int) < 49 := by omega
                  obtain ⟨c17k, c17l⟩ := unhide DB3 i hlt _ (unhide HK)
                  have NO := hide (nmH_out U i)
                  have NI := hide (nmH_in U i)
                  have PO := hide (nmL_out U i)
                  have PI := hide (nmL_in U i)
                  have TB1 := hide (unhide TKB i hlt)
                  have TW1 := hide (unhide TKW i hlt)
                  have DW1 := hide (unhide DW3 i hlt)
                  generalize (U.b i).k = kb at *
                  generalize (U.b i).l = lb at *
                  generalize (U.w i).k = kw at *
                  generalize (U.w i).l = lw at *
                  by_cases hkb : kb = 0
                  · have e := unhide NO hkb
                    rw [← e] at HR
                    subst hkb
                    clear NO NI TB1 e
                    go_upto_region 43 with fail
                    clear c17k c17l
                    have HKX := HK
                    clear HK
                    generalize wr = wx at *
                    obtain ⟨c19k, c19l⟩ := unhide DW1 _ (unhide HKX)
                    by_cases hkw : kw = 0
                    · have e := unhide PO hkw
                      rw [← e] at HR
                      subst hkw
                      clear PO PI TW1 e
                      go_wp2_with fail
                      go_roundw
                      case rel => exact ⟨i + 1, by omega, by go_num, unhide HKX, unhide HR⟩
                      case measure => simp [intOf]; omega
                    · obtain ⟨q2, rfl, hq2⟩ := unhide TW1 hkw
                      have hkw1 : (kw != 0) = true := by simpa using hkw
                      have e := unhide PI hkw
                      have cr : wx.cell? ⟨gr, q2, none⟩ = some (.bool (nmH U i q2)) := by rw [cell_of_block (unhide HR)]; exact rowB_get _ _ hq2
                      have fr : wx.frozen? ⟨gr, q2, none⟩ = false := unfrozen_of_block (unhide HR) _
                      have HR3 : Hid ((wx.setCell ⟨gr, q2, none⟩ (.bool true)).heap[gr]? = some (.cells (rowB (nmL U (i + 1))) 4 (0, 0))) := by
                        show _ = _; rw [block_setCell (unhide HR), rowB_put, e]
                      have HKY : Hid (Keeps (· = gr) w13 (wx.setCell ⟨gr, q2, none⟩ (.bool true))) := (unhide HKX).setCell (p := ⟨gr, q2, none⟩) rfl _
                      have hq2' : (q2 : Int) < 100 := by omega
                      generalize nmH U i q2 = old2 at cr
                      clear PO PI TW1 e hkw HR HKX
                      go_wp2_with fail
                      go_roundw
                      case rel => exact ⟨i + 1, by omega, by go_num, unhide HKY, unhide HR3⟩
                      case measure => simp [intOf]; omega
                  · obtain ⟨q, rfl, hq⟩ := unhide TB1 hkb
                    have hkb1 : (kb != 0) = true := by simpa using hkb
                    have e := unhide NI hkb
                    have cr : wr.cell? ⟨gr, q, none⟩ = some (.bool (nmL U i q)) := by rw [cell_of_block (unhide HR)]; exact rowB_get _ _ hq
                    have fr : wr.frozen? ⟨gr, q, none⟩ = false := unfrozen_of_block (unhide HR) _
                    have HR2 : Hid ((wr.setCell ⟨gr, q, none⟩ (.bool true)).heap[gr]? = some (.cells (rowB (nmH U i)) 4 (0, 0))) := by
                      show _ = _; rw [block_setCell (unhide HR), rowB_put, e]
                    have HKX : Hid (Keeps (· = gr) w13 (wr.setCell ⟨gr, q, none⟩ (.bool true))) := (unhide HK).setCell (p := ⟨gr, q, none⟩) rfl _
                    have hq' : (q : Int) < 100 := by omega
                    generalize nmL U i q = old at cr
                    clear NO NI TB1 e hkb HR HK
                    go_upto_region 43 with fail
                    clear cr fr c17k c17l hkb1
                    have HR := HR2
                    clear HR2
                    generalize wr.setCell ⟨gr, q, none⟩ (.bool true) = wx at *
                    obtain ⟨c19k, c19l⟩ := unhide DW1 _ (unhide HKX)
                    by_cases hkw : kw = 0
                    · have e := unhide PO hkw
                      rw [← e] at HR
                      subst hkw
                      clear PO PI TW1 e
                      go_wp2_with fail
                      go_roundw
                      case rel => exact ⟨i + 1, by omega, by go_num, unhide HKX, unhide HR⟩
                      case measure => simp [intOf]; omega
                    · obtain ⟨q2, rfl, hq2⟩ := unhide TW1 hkw
                      have hkw1 : (kw != 0) = true := by simpa using hkw
                      have e := unhide PI hkw
                      have cr : wx.cell? ⟨gr, q2, none⟩ = some (.bool (nmH U i q2)) := by rw [cell_of_block (unhide HR)]; exact rowB_get _ _ hq2
                      have fr : wx.frozen? ⟨gr, q2, none⟩ = false := unfrozen_of_block (unhide HR) _
                      have HR3 : Hid ((wx.setCell ⟨gr, q2, none⟩ (.bool true)).heap[gr]? = some (.cells (rowB (nmL U (i + 1))) 4 (0, 0))) := by
                        show _ = _; rw [block_setCell (unhide HR), rowB_put, e]
                      have HKY : Hid (Keeps (· = gr) w13 (wx.setCell ⟨gr, q2, none⟩ (.bool true))) := (unhide HKX).setCell (p := ⟨gr, q2, none⟩) rfl _
                      have hq2' : (q2 : Int) < 100 := by omega
                      generalize nmH U i q2 = old2 at cr
                      clear PO PI TW1 e hkw HR HKX
                      go_wp2_with fail
                      go_roundw
                      case rel => exact ⟨i + 1, by omega, by go_num, unhide HKY, unhide HR3⟩
                      case measure => simp [intOf]; omega
                · have e49 : i = 49 := by omega
                  rw [e49] at HR
                  have R1 : Hid (wr.heap[gr]? = some (.cells (rowB (nmA U 0)) 4 (0, 0))) := by rw [nmA_zero]; exact unhide HR
                  clear HR DB3 DW3 TKB TKW
                  go_upto_region 45 with fail
                  clear hlt hi e49
                  generalize (i : Int) = last at *
                  go_wp2_with fail
                  go_loopw [22] (fun q wr => ∃ i : Nat, i ≤ 8 ∧ q = .int .i64 i ∧ Keeps (· = gr) w13 wr ∧ wr.heap[gr]? = some (.cells (rowB (nmA U i)) 4 (0, 0))) (fun q _ => 8 - (intOf q).toNat)
                  case atStart => exact ⟨0, by omega, rfl, unhide HK, unhide R1⟩
                  case round =>
                    clear R1 HK
                    obtain ⟨i, hi, rfl, hk, hr⟩ := hrel
                    have HK := hide hk
                    have HR := hide hr
                    clear hk hr
                    by_cases hlt : i < 8
                    · have hlt' : (i : Int) < 8 := by omega
                      have c18 := unhide DD3 i hlt _ (unhide HK)
                      have e := nmA_next U i
                      obtain ⟨q, hqe, hq⟩ := unhide TKD i hlt
                      rw [hqe] at c18 e
                      have cr : wr.cell? ⟨gr, q, none⟩ = some (.bool (nmA U i q)) := by rw [cell_of_block (unhide HR)]; exact rowB_get _ _ hq
                      have fr : wr.frozen? ⟨gr, q, none⟩ = false := unfrozen_of_block (unhide HR) _
                      have HR2 : Hid ((wr.setCell ⟨gr, q, none⟩ (.bool true)).heap[gr]? = some (.cells (rowB (nmA U (i + 1))) 4 (0, 0))) := by
                        show _ = _; rw [block_setCell (unhide HR), rowB_put, e]
                      have HKX : Hid (Keeps (· = gr) w13 (wr.setCell ⟨gr, q, none⟩ (.bool true))) := (unhide HK).setCell (p := ⟨gr, q, none⟩) rfl _
                      have hq' : (q : Int) < 100 := by omega
                      generalize nmA U i q = old at cr
                      clear hqe e HR HK
                      go_wp2_with fail
                      go_roundw
                      case rel => exact ⟨i + 1, by omega, by go_num, unhide HKX, unhide HR2⟩
                      case measure => simp [intOf]; omega
                    · have e8 : i = 8 := by omega
                      rw [e8] at HR
                      have HNB : Hid (∀ z, z < 100 → 10 ≤ z → named U z = !nmA U 8 z) := fun z _ hz => by unfold named; rw [nmA_all, decide_eq_true hz, Bool.true_and]
                      clear DD3 TKD
                      go_upto_region 49 with fail
                      clear hlt hi e8
                      generalize (i : Int) = last2 at *
                      go_wp2_with fail
                      generalize wr = wz at *
                      have LFT := hide (unhide CL wz (Blk.keeps (unhide BS).1 (unhide HK) (fun e => (unhide BS).2 e)))
                      have K18 : Hid (wz.heap[g17 + 1]? = some (.cells DB 60 (0, 0))) := ((unhide HK).block (g17 + 1) (lt_heap (unhide B18).1) (unhide B18).2).trans (unhide B18).1
                      have K12 : Hid (wz.heap[g]? = some (.cells DB 25 (0, 0))) := ((unhide HK).block g (lt_heap (unhide B12).1) (unhide B12).2).trans (unhide B12).1
                      have KW : Hid (Below W.heap.size W wz) := by
                        have h1 := (unhide BK).1
                        have h2 := unhide HK
                        exact ⟨h2.os.trans h1.os, h2.tape.trans h1.tape, h2.output.trans h1.output, Nat.le_trans h1.size h2.size, fun k hk => (h2.block k (Nat.lt_of_lt_of_le hk h1.size) (fun e => by have := (unhide BK).2; omega)).trans (h1.block k hk id)⟩
                      have s60 := s60d
                      clear CL HK BS BK B12 B17 B18 B19
                      go_loopw [23, 24] (fun f q wr => ∃ i : Nat, 10 ≤ i ∧ i ≤ 100 ∧ q = .int .i64 i ∧ f = .int .i64 (cnt U i : Int) ∧ wr = wz) (fun _ q _ => 100 - (intOf q).toNat)
                      case atStart => exact ⟨10, by omega, by omega, rfl, by rw [cnt_ten]; rfl, rfl⟩
                      case round =>
                        obtain ⟨i, hi1, hi2, rfl, rfl, rfl⟩ := hrel
                        have hcl := cnt_le U i
                        by_cases hlt : i < 100
                        · have hlt' : (i : Int) < 100 := by omega
                          have cn := cnt_next U i
                          have nb := unhide HNB i hlt hi1
                          have cr : wr.cell? ⟨gr, i, none⟩ = some (.bool (nmA U 8 i)) := by rw [cell_of_block (unhide HR)]; exact rowB_get _ _ hlt
                          cases hb : nmA U 8 i with
                          | true =>
                            rw [hb] at nb cr
                            have HC : Hid (cnt U (i + 1) = cnt U i) := by show _ = _; rw [cn, nb]; rfl
                            clear cn nb hb
                            generalize cnt U i = ci at *
                            go_wp2_with fail
                            go_roundw
                            case rel => exact ⟨i + 1, by omega, by omega, by go_num, by rw [unhide HC], by trivial⟩
                            case measure => simp [intOf]; omega
                          | false =>
                            rw [hb] at nb cr
                            have HC : Hid (cnt U (i + 1) = cnt U i + 1) := by show _ = _; rw [cn, nb]; rfl
                            clear cn nb hb
                            generalize cnt U i = ci at *
                            go_wp2_with fail
                            go_roundw
                            case rel => exact ⟨i + 1, by omega, by omega, by go_num, by rw [unhide HC]; go_num, by trivial⟩
                            case measure => simp [intOf]; omega
                        · have e100 : i = 100 := by omega
                          rw [e100] at hcl
                          have EC : Hid (cnt U i = cnt U 100) := by show _ = _; rw [e100]
                          rw [unhide EC]
                          clear EC
                          generalize cnt U 100 = cc at *
                          go_wp2_with (first | (with_reducible refine wpList_load_row_g (by with_unfolding_all rfl) 60 (.tmp 18) (by with_unfolding_all rfl) (g17 + 1) (by with_unfolding_all rfl) _ _ _ _ (unhide K18) Try.underlying60 (by with_unfolding_all rfl) s60 ?_) | (with_reducible refine wpList_load_row_g (by with_unfolding_all rfl) 25 (.tmp 12) (by with_unfolding_all rfl) g (by with_unfolding_all rfl) _ _ _ _ (unhide K12) Try.underlying25 (by with_unfolding_all rfl) s8d ?_) | (with_reducible refine wpList_eqlA (by with_unfolding_all rfl) 60 60 (.tmp 175) (.tmp 176) (by with_unfolding_all rfl) DB DB (by with_unfolding_all rfl) (by with_unfolding_all rfl) dir_guard true (unhide EQD) ?_) | (go_at_call 28; refine (unhide LFT).mono ?_; rintro e wr ⟨rfl, rfl⟩))
                          go_ret
                          exact ⟨rfl, unhide KW⟩
        | false =>
          have CT := hide (take_obj (unhide M) (unhide O1).st (unhide S1).ok)
          generalize S0.F.allocE = E7 at *
          generalize S0.F.allocV = V7 at *
          go_wp2_with fail
          refine (unhide CT).mono ?_
          rintro e w8 ⟨rfl, h1, h2⟩
          have O2 := hide ((unhide O1).call (St' := SHas W m b (fun A w G => Has W w G m A) S0.took A) h1 h2)
          clear h1 h2 CT O1
          have ST : Hid (Stands S0.took) := t_stands (unhide S1) 1
          have EN := hide (ends_a (unhide ST))
          have EI : Hid (S0.took.is = true) := unhide I1
          have CC := hide (abort_any (unhide M) (unhide O2).st (unhide ST).ok)
          rw [(abort_is (unhide EI)).1, (abort_is (unhide EI)).2] at CC
          have EU : Hid (dirF = (aU S0.took).d) := (unhide ST).d.symm
          have UV : Hid (∀ i, i < 49 → v24 ((aU S0.took).w i).v) := (unhide ST).ok.2
          generalize aU S0.took = U at *
          go_wp2_with fail
          refine (unhide CC).mono ?_
          rintro e w9 ⟨rfl, h1, h2⟩
          have O3 := hide ((unhide O2).call (St' := SHas W m b (fun A w G => Has W w G m A) U.freed A) h1 h2)
          rw [unhide EU] at O3
          clear h1 h2 CC O2 EU EI ST
          generalize w9 = w8 at *
          go_upto_region 35 with fail
          have TF := hide (SHas.stay (unhide M) b U.freed A)
          have CB : Hid (Calls Try.prog 22 #[.pointer (some ⟨b, 0, none⟩)] w8 fun e w' => e = .returned (.tuple #[.agg (tabV U.b), .agg (dirV U.d)]) ∧ Below w8.heap.size w8 w') := base_obj (S := U.freed) (unhide O3).st.rep
          have CT : Hid (∀ w', SRep m U.freed w' b → Calls Try.prog 27 #[.pointer (some ⟨b, 0, none⟩)] w' fun e w2 => e = .returned (.agg (tabV U.w)) ∧ Below w'.heap.size w' w2) := fun w' h => table_obj (S := U.freed) h
          have CL : Hid (∀ w', SRep m U.freed w' b → Calls Try.prog 28 #[.pointer (some ⟨b, 0, none⟩)] w' fun e w2 => e = .returned (.int .i64 (cnt U 100 : Int)) ∧ w2 = w') := fun w' h => by
            have := left_obj h ⟨freeTo_ok ⟨by rw [(unhide EN).lh.1, (unhide EN).lh.2]; decide, by rw [(unhide EN).lh.2]; decide, fun i => ((unhide EN).s2 i).imp id Or.inl⟩ _ _, unhide UV⟩
            rw [ends_left (unhide EN)] at this; exact this
          have s1 := s147_tab U.b
          have s2 := s147_tab U.w
          have s3 := s8_dir U.d
          have X1 := hide (tabV_one U.b)
          have X2 := hide (tabV_one U.w)
          have X3 := hide (dirV_one U.d)
          have Z1 := hide zero_tab
          have Z3 := hide zero_dir
          have SZ1 : Hid ((tabV fun _ => ze).size = (tabV U.b).size) := by show _ = _; rw [tabV_size, tabV_size]
          have SZ2 : Hid ((tabV fun _ => ze).size = (tabV U.w).size) := by show _ = _; rw [tabV_size, tabV_size]
          have SZ3 : Hid ((dirV fun _ => 0).size = (dirV U.d).size) := by show _ = _; rw [dirV_size, dirV_size]
          generalize (tabV fun _ => ze) = ZV at *
          generalize (dirV fun _ => 0) = ZW at *
          have CB2 : Hid (∀ i, i < 49 → (tabV U.b)[i * 3]? = some (.int .i64 (U.b i).k) ∧ (tabV U.b)[i * 3 + 2]? = some (.int .i64 (U.b i).l)) := fun i hi => ⟨by rw [tabV_cell _ _ (by omega), fl3_0], by rw [tabV_cell _ _ (by omega), fl3_2]⟩
          have CW2 : Hid (∀ i, i < 49 → (tabV U.w)[i * 3]? = some (.int .i64 (U.w i).k) ∧ (tabV U.w)[i * 3 + 2]? = some (.int .i64 (U.w i).l)) := fun i hi => ⟨by rw [tabV_cell _ _ (by omega), fl3_0], by rw [tabV_cell _ _ (by omega), fl3_2]⟩
          have CD2 : Hid (∀ i, i < 8 → (dirV U.d)[i]? = some (.int .i64 (U.d i))) := fun i hi => dirV_cell _ _ hi
          have EQD := hide (equal_dir U.d)
          have s8d := s8_dir8 U.d
          have s60d := s8_dir U.d
          generalize tabV U.b = TB at *
          generalize tabV U.w = TW at *
          generalize dirV U.d = DB at *
          go_wp2_with fail
          refine (unhide CB).mono ?_
          rintro e w9 ⟨rfl, hb⟩
          have O4 := hide ((unhide O3).below (unhide TF) hb)
          have kg9 := hide ((unhide O4).at g (.cells DB 25) (by simp))
          have rep9 := hide (unhide O4).st.rep
          have HK9 : Hid (Keeps (fun _ => False) W w9) := (unhide TF).sz _ _ (unhide O4).1
          have hb9 : b < w9.heap.size := (unhide O4).st.lt
          have hg9 : g < w9.heap.size := (unhide O4).lt (g, .cells DB 25) (by simp)
          have hsz : (w9.alloc (.cells ZV 59)).heap.size = w9.heap.size + 1 := by simp
          clear hb O3 O4 CB TF
          have K17 : Hid (((w9.alloc (.cells ZV 59)).alloc (.cells ZW 60)).heap[w9.heap.size]? = some (.cells ZV 59 (0, 0))) := (heap2 w9 _ _).1
          have K18 : Hid ((((w9.alloc (.cells ZV 59)).alloc (.cells ZW 60)).setRow w9.heap.size TB).heap[w9.heap.size + 1]? = some (.cells ZW 60 (0, 0))) := (setRow_other _ _ _ _ (by omega)).trans (heap2 w9 _ _).2
          have K18' : Hid ((((w9.alloc (.cells ZV 59)).alloc (.cells ZW 60)).setRow w9.heap.size TB).heap[(w9.alloc (.cells ZV 59)).heap.size]? = some (.cells ZW 60 (0, 0))) := by show _ = _; rw [hsz]; exact unhide K18
          have HSZ := hide hsz
          clear hsz
          go_upto_region 36 with (first | (with_reducible refine wpList_allocZ (by with_unfolding_all rfl) 59 (by with_unfolding_all rfl) ZV (unhide Z1) ?_) | (with_reducible refine wpList_allocZ (by with_unfolding_all rfl) 60 (by with_unfolding_all rfl) ZW (unhide Z3) ?_) | (with_reducible refine wpList_store_row (by with_unfolding_all rfl) 59 _ _ (by with_unfolding_all rfl) w9.heap.size TB (by with_unfolding_all rfl) (by with_unfolding_all rfl) 59 ZV (unhide K17) s1 (unhide SZ1) (unhide X1) ?_) | (with_reducible refine wpList_store_row (by with_unfolding_all rfl) 60 _ _ (by with_unfolding_all rfl) (w9.heap.size + 1) DB (by with_unfolding_all rfl) (by with_unfolding_all rfl) 60 ZW (unhide K18) s3 (unhide SZ3) (unhide X3) ?_) | (with_reducible refine wpList_store_row (by with_unfolding_all rfl) 60 _ _ (by with_unfolding_all rfl) (w9.alloc (.cells ZV 59)).heap.size DB (by with_unfolding_all rfl) (by with_unfolding_all rfl) 60 ZW (unhide K18') s3 (unhide SZ3) (unhide X3) ?_))
          try rw [unhide HSZ]
          obtain ⟨g17, hg17⟩ : ∃ g17, g17 = w9.heap.size := ⟨_, rfl⟩
          generalize hw : (((w9.alloc (.cells ZV 59)).alloc (.cells ZW 60)).setRow w9.heap.size TB).setRow (w9.heap.size + 1) DB = w10 at *
          have KP : Keeps (fun _ => False) w9 w10 := by
            rw [← hw]
            exact ((((Keeps.refl _ w9).alloc _).alloc _).setRow (Or.inr (Nat.le_refl _)) _).setRow (Or.inr (Nat.le_succ _)) _
          have r17 : w10.heap[g17]? = some (.cells TB 59 (0, 0)) := by
            rw [← hw, hg17]; exact (setRow_other _ _ _ _ (by omega)).trans (setRow_heap _ _ _ _ _ _ (unhide K17))
          have r18 : w10.heap[g17 + 1]? = some (.cells DB 60 (0, 0)) := by
            rw [← hw, hg17]; exact setRow_heap _ _ _ _ _ _ (unhide K18)
          have r12 : w10.heap[g]? = some (.cells DB 25 (0, 0)) := (KP.block g hg9 id).trans (unhide kg9)
          have rS : SRep m U.freed w10 b := Blk.keeps (unhide rep9) KP id
          have rK : Keeps (fun _ => False) W w10 := (unhide HK9).trans' KP
          have l17 : g17 + 1 < w10.heap.size := by
            rcases Nat.lt_or_ge (g17 + 1) w10.heap.size with h' | h'
            · exact h'
            · rw [Array.getElem?_eq_none h'] at r18; cases r18
          have lg : g < g17 := by omega
          have lb : b < g17 := by omega
          have R17 := hide r17
          have R18 := hide r18
          have R12 := hide r12
          have RS := hide rS
          have RK := hide rK
          have LTS := hide (And.intro l17 (And.intro lg lb))
          rw [← hg17]
          clear r17 r18 r12 rS rK l17 lg lb KP hw hg17 K17 K18 K18' HSZ kg9 rep9 HK9 hb9 hg9 s1 s3 X1 X3 Z3 SZ1 SZ3
          go_wp2_with fail
          refine (unhide CT _ (unhide RS)).mono ?_
          rintro e w11 ⟨rfl, hb⟩
          have HB := hide hb
          clear hb CT
          go_upto_region 37 with (first | (with_reducible refine wpList_allocZ (by with_unfolding_all rfl) 59 (by with_unfolding_all rfl) ZV (unhide Z1) ?_) | (with_reducible refine wpList_store_row (by with_unfolding_all rfl) 59 _ _ (by with_unfolding_all rfl) w11.heap.size TW (by with_unfolding_all rfl) (by with_unfolding_all rfl) 59 ZV (heap_new w11 _) s2 (unhide SZ2) (unhide X2) ?_; rw [setRow_alloc]))
          have r19 := hide (heap_new w11 (.cells TW 59))
          have KP : Hid (Keeps (fun _ => False) w10 (w11.alloc (.cells TW 59))) := (Keeps.of_below (unhide HB)).alloc _
          have LT19 : Hid (g17 + 1 < w11.heap.size) := by have := (unhide HB).size; have := (unhide LTS).1; show _ < _; omega
          obtain ⟨g19, hg19⟩ : ∃ g19, g19 = w11.heap.size := ⟨_, rfl⟩
          rw [← hg19] at r19 LT19 ⊢
          have L20 : Hid (g19 < (w11.alloc (.cells TW 59)).heap.size) := by show _ < _; simp; omega
          clear hg19 HB s2 X2 Z1 SZ2
          generalize w11.alloc (.cells TW 59) = w12 at *
          obtain ⟨i0, hi, hz0, hz1, hz2⟩ := info_parts info_boolO
          go_upto_region 38 with (at_make; refine wpList_make_full _ rfl _ _ 69 rfl w12.heap.size 4 i0 _ 1 Try.underlying69 hi hz0 hz1 .i64 .i64 _ _ 100 rfl rfl rfl rfl (by rw [hz2]; decide) (by decide) (Nat.le_refl _) ?_; intro w13 hown hgrow)
          have r20 : w13.heap[w12.heap.size]? = some (.cells (rowB fun _ => false) 4 (0, 0)) := made_tab rfl hown
          have KG : Keeps (fun _ => False) w12 w13 := Keeps.grown (Keeps.refl _ _) hgrow (fun k hk => by simp at hk)
          have KQ : Hid (Keeps (fun _ => False) w10 w13) := (unhide KP).trans' KG
          have R20 := hide r20
          have R19 : Hid (w13.heap[g19]? = some (.cells TW 59 (0, 0))) := (KG.block g19 (unhide L20) id).trans (unhide r19)
          have L19 : Hid (g19 < w12.heap.size) := unhide L20
          obtain ⟨gr, hgr⟩ : ∃ gr, gr = w12.heap.size := ⟨_, rfl⟩
          rw [← hgr] at R20 L19 ⊢
          have B17 : Hid (w13.heap[g17]? = some (.cells TB 59 (0, 0)) ∧ g17 ≠ gr) := ⟨((unhide KQ).block g17 (by have := (unhide LTS).1; omega) id).trans (unhide R17), by have := unhide L19; have := unhide LT19; omega⟩
          have B18 : Hid (w13.heap[g17 + 1]? = some (.cells DB 60 (0, 0)) ∧ g17 + 1 ≠ gr) := ⟨((unhide KQ).block (g17 + 1) (unhide LTS).1 id).trans (unhide R18), by have := unhide L19; have := unhide LT19; omega⟩
          have B19 : Hid (w13.heap[g19]? = some (.cells TW 59 (0, 0)) ∧ g19 ≠ gr) := ⟨unhide R19, by have := unhide L19; omega⟩
          have B12 : Hid (w13.heap[g]? = some (.cells DB 25 (0, 0)) ∧ g ≠ gr) := ⟨((unhide KQ).block g (by have := (unhide LTS).1; have := (unhide LTS).2.1; omega) id).trans (unhide R12), by have := unhide L19; have := unhide LT19; have := (unhide LTS).2.1; omega⟩
          have BS : Hid (SRep m U.freed w13 b ∧ b ≠ gr) := ⟨Blk.keeps (unhide RS) (unhide KQ) id, by have := unhide L19; have := unhide LT19; have := (unhide LTS).2.2; omega⟩
          have BK : Hid (Keeps (fun _ => False) W w13 ∧ W.heap.size ≤ gr) := ⟨(unhide RK).trans' (unhide KQ), by rw [hgr]; exact Nat.le_trans (unhide RK).size (unhide KP).size⟩
          clear hown hgrow r20 KG KQ KP r19 L20 L19 LT19 LTS R17 R18 R19 R12 RS RK hgr i0 hi hz0 hz1 hz2
          have DB3 : Hid (∀ i, i < 49 → ∀ w', Keeps (· = gr) w13 w' → w'.cell? ⟨g17, i * 3, none⟩ = some (.int .i64 (U.b i).k) ∧ w'.cell? ⟨g17, i * 3 + 2, none⟩ = some (.int .i64 (U.b i).l)) := fun i hi w' hk => by
            have h := (hk.block g17 (lt_heap (unhide B17).1) (unhide B17).2).trans (unhide B17).1
            exact ⟨by rw [cell_of_block h]; exact (unhide CB2 i hi).1, by rw [cell_of_block h]; exact (unhide CB2 i hi).2⟩
          have DW3 : Hid (∀ i, i < 49 → ∀ w', Keeps (· = gr) w13 w' → w'.cell? ⟨g19, i * 3, none⟩ = some (.int .i64 (U.w i).k) ∧ w'.cell? ⟨g19, i * 3 + 2, none⟩ = some (.int .i64 (U.w i).l)) := fun i hi w' hk => by
            have h := (hk.block g19 (lt_heap (unhide B19).1) (unhide B19).2).trans (unhide B19).1
            exact ⟨by rw [cell_of_block h]; exact (unhide CW2 i hi).1, by rw [cell_of_block h]; exact (unhide CW2 i hi).2⟩
          have DD3 : Hid (∀ i, i < 8 → ∀ w', Keeps (· = gr) w13 w' → w'.cell? ⟨g17 + 1, i, none⟩ = some (.int .i64 (U.d i))) := fun i hi w' hk => by
            have h := (hk.block (g17 + 1) (lt_heap (unhide B18).1) (unhide B18).2).trans (unhide B18).1
            rw [cell_of_block h]; exact unhide CD2 i hi
          have TKB : Hid (∀ i, i < 49 → (U.b i).k ≠ 0 → ∃ q : Nat, (U.b i).l = (q : Int) ∧ q < 100) := fun i hi hk => by
            have h := ((unhide EN).b i hi hk).1
            have h1 := h.1; have h2 := h.2
            rw [(unhide EN).lh.1] at h1; rw [(unhide EN).lh.2] at h2
            exact ⟨(U.b i).l.toNat, by omega, by omega⟩
          have TKW : Hid (∀ i, i < 49 → (U.w i).k ≠ 0 → ∃ q : Nat, (U.w i).l = (q : Int) ∧ q < 100) := fun i hi hk => by
            have h := ((unhide EN).w i hi hk).1
            have h1 := h.1; have h2 := h.2
            rw [(unhide EN).lh.1] at h1; rw [(unhide EN).lh.2] at h2
            exact ⟨(U.w i).l.toNat, by omega, by omega⟩
          have TKD : Hid (∀ i, i < 8 → ∃ q : Nat, U.d i = (q : Int) ∧ q < 100) := fun i hi => by
            have h := ((unhide EN).d i hi).1
            have h1 := h.1; have h2 := h.2
            rw [(unhide EN).lh.1] at h1; rw [(unhide EN).lh.2] at h2
            exact ⟨(U.d i).toNat, by omega, by omega⟩
          have R0 : Hid (w13.heap[gr]? = some (.cells (rowB (nmL U 0)) 4 (0, 0))) := unhide R20
          clear CB2 CW2 CD2 R20
          go_wp2_with fail
          go_loopw [21] (fun q wr => ∃ i : Nat, i ≤ 49 ∧ q = .int .i64 i ∧ Keeps (· = gr) w13 wr ∧ wr.heap[gr]? = some (.cells (rowB (nmL U i)) 4 (0, 0))) (fun q _ => 49 - (intOf q).toNat)
          case atStart => exact ⟨0, by omega, rfl, Keeps.refl _ _, unhide R0⟩
          case round =>
            clear R0
            obtain ⟨i, hi, rfl, hk, hr⟩ := hrel
            have HK := hide hk
            have HR := hide hr
            clear hk hr
            by_cases hlt : i < 49
            · have hlt' : (i : Int) < 49 := by omega
              obtain ⟨c17k, c17l⟩ := unhide DB3 i hlt _ (unhide HK)
              have NO := hide (nmH_out U i)
              have NI := hide (nmH_in U i)
              have PO := hide (nmL_out U i)
              have PI := hide (nmL_in U i)
              have TB1 := hide (unhide TKB i hlt)
              have TW1 := hide (unhide TKW i hlt)
              have DW1 := hide (unhide DW3 i hlt)
              generalize (U.b i).k = kb at *
              generalize (U.b i).l = lb at *
              generalize (U.w i).k = kw at *
              generalize (U.w i).l = lw at *
              by_cases hkb : kb = 0
              · have e := unhide NO hkb
                rw [← e] at HR
                subst hkb
                clear NO NI TB1 e
                go_upto_region 43 with fail
                clear c17k c17l
                have HKX := HK
                clear HK
                generalize wr = wx at *
                obtain ⟨c19k, c19l⟩ := unhide DW1 _ (unhide HKX)
                by_cases hkw : kw = 0
                · have e := unhide PO hkw
                  rw [← e] at HR
                  subst hkw
                  clear PO PI TW1 e
                  go_wp2_with fail
                  go_roundw
                  case rel => exact ⟨i + 1, by omega, by go_num, unhide HKX, unhide HR⟩
                  case measure => simp [intOf]; omega
                · obtain ⟨q2, rfl, hq2⟩ := unhide TW1 hkw
                  have hkw1 : (kw != 0) = true := by simpa using hkw
                  have e := unhide PI hkw
                  have cr : wx.cell? ⟨gr, q2, none⟩ = some (.bool (nmH U i q2)) := by rw [cell_of_block (unhide HR)]; exact rowB_get _ _ hq2
                  have fr : wx.frozen? ⟨gr, q2, none⟩ = false := unfrozen_of_block (unhide HR) _
                  have HR3 : Hid ((wx.setCell ⟨gr, q2, none⟩ (.bool true)).heap[gr]? = some (.cells (rowB (nmL U (i + 1))) 4 (0, 0))) := by
                    show _ = _; rw [block_setCell (unhide HR), rowB_put, e]
                  have HKY : Hid (Keeps (· = gr) w13 (wx.setCell ⟨gr, q2, none⟩ (.bool true))) := (unhide HKX).setCell (p := ⟨gr, q2, none⟩) rfl _
                  have hq2' : (q2 : Int) < 100 := by omega
                  generalize nmH U i q2 = old2 at cr
                  clear PO PI TW1 e hkw HR HKX
                  go_wp2_with fail
                  go_roundw
                  case rel => exact ⟨i + 1, by omega, by go_num, unhide HKY, unhide HR3⟩
                  case measure => simp [intOf]; omega
              · obtain ⟨q, rfl, hq⟩ := unhide TB1 hkb
                have hkb1 : (kb != 0) = true := by simpa using hkb
                have e := unhide NI hkb
                have cr : wr.cell? ⟨gr, q, none⟩ = some (.bool (nmL U i q)) := by rw [cell_of_block (unhide HR)]; exact rowB_get _ _ hq
                have fr : wr.frozen? ⟨gr, q, none⟩ = false := unfrozen_of_block (unhide HR) _
                have HR2 : Hid ((wr.setCell ⟨gr, q, none⟩ (.bool true)).heap[gr]? = some (.cells (rowB (nmH U i)) 4 (0, 0))) := by
                  show _ = _; rw [block_setCell (unhide HR), rowB_put, e]
                have HKX : Hid (Keeps (· = gr) w13 (wr.setCell ⟨gr, q, none⟩ (.bool true))) := (unhide HK).setCell (p := ⟨gr, q, none⟩) rfl _
                have hq' : (q : Int) < 100 := by omega
                generalize nmL U i q = old at cr
                clear NO NI TB1 e hkb HR HK
                go_upto_region 43 with fail
                clear cr fr c17k c17l hkb1
                have HR := HR2
                clear HR2
                generalize wr.setCell ⟨gr, q, none⟩ (.bool true) = wx at *
                obtain ⟨c19k, c19l⟩ := unhide DW1 _ (unhide HKX)
                by_cases hkw : kw = 0
                · have e := unhide PO hkw
                  rw [← e] at HR
                  subst hkw
                  clear PO PI TW1 e
                  go_wp2_with fail
                  go_roundw
                  case rel => exact ⟨i + 1, by omega, by go_num, unhide HKX, unhide HR⟩
                  case measure => simp [intOf]; omega
                · obtain ⟨q2, rfl, hq2⟩ := unhide TW1 hkw
                  have hkw1 : (kw != 0) = true := by simpa using hkw
                  have e := unhide PI hkw
                  have cr : wx.cell? ⟨gr, q2, none⟩ = some (.bool (nmH U i q2)) := by rw [cell_of_block (unhide HR)]; exact rowB_get _ _ hq2
                  have fr : wx.frozen? ⟨gr, q2, none⟩ = false := unfrozen_of_block (unhide HR) _
                  have HR3 : Hid ((wx.setCell ⟨gr, q2, none⟩ (.bool true)).heap[gr]? = some (.cells (rowB (nmL U (i + 1))) 4 (0, 0))) := by
                    show _ = _; rw [block_setCell (unhide HR), rowB_put, e]
                  have HKY : Hid (Keeps (· = gr) w13 (wx.setCell ⟨gr, q2, none⟩ (.bool true))) := (unhide HKX).setCell (p := ⟨gr, q2, none⟩) rfl _
                  have hq2' : (q2 : Int) < 100 := by omega
                  generalize nmH U i q2 = old2 at cr
                  clear PO PI TW1 e hkw HR HKX
                  go_wp2_with fail
                  go_roundw
                  case rel => exact ⟨i + 1, by omega, by go_num, unhide HKY, unhide HR3⟩
                  case measure => simp [intOf]; omega
            · have e49 : i = 49 := by omega
              rw [e49] at HR
              have R1 : Hid (wr.heap[gr]? = some (.cells (rowB (nmA U 0)) 4 (0, 0))) := by rw [nmA_zero]; exact unhide HR
              clear HR DB3 DW3 TKB TKW
              go_upto_region 45 with fail
              clear hlt hi e49
              generalize (i : Int) = last at *
              go_wp2_with fail
              go_loopw [22] (fun q wr => ∃ i : Nat, i ≤ 8 ∧ q = .int .i64 i ∧ Keeps (· = gr) w13 wr ∧ wr.heap[gr]? = some (.cells (rowB (nmA U i)) 4 (0, 0))) (fun q _ => 8 - (intOf q).toNat)
              case atStart => exact ⟨0, by omega, rfl, unhide HK, unhide R1⟩
              case round =>
                clear R1 HK
                obtain ⟨i, hi, rfl, hk, hr⟩ := hrel
                have HK := hide hk
                have HR := hide hr
                clear hk hr
                by_cases hlt : i < 8
                · have hlt' : (i : Int) < 8 := by omega
                  have c18 := unhide DD3 i hlt _ (unhide HK)
                  have e := nmA_next U i
                  obtain ⟨q, hqe, hq⟩ := unhide TKD i hlt
                  rw [hqe] at c18 e
                  have cr : wr.cell? ⟨gr, q, none⟩ = some (.bool (nmA U i q)) := by rw [cell_of_block (unhide HR)]; exact rowB_get _ _ hq
                  have fr : wr.frozen? ⟨gr, q, none⟩ = false := unfrozen_of_block (unhide HR) _
                  have HR2 : Hid ((wr.setCell ⟨gr, q, none⟩ (.bool true)).heap[gr]? = some (.cells (rowB (nmA U (i + 1))) 4 (0, 0))) := by
                    show _ = _; rw [block_setCell (unhide HR), rowB_put, e]
                  have HKX : Hid (Keeps (· = gr) w13 (wr.setCell ⟨gr, q, none⟩ (.bool true))) := (unhide HK).setCell (p := ⟨gr, q, none⟩) rfl _
                  have hq' : (q : Int) < 100 := by omega
                  generalize nmA U i q = old at cr
                  clear hqe e HR HK
                  go_wp2_with fail
                  go_roundw
                  case rel => exact ⟨i + 1, by omega, by go_num, unhide HKX, unhide HR2⟩
                  case measure => simp [intOf]; omega
                · have e8 : i = 8 := by omega
                  rw [e8] at HR
                  have HNB : Hid (∀ z, z < 100 → 10 ≤ z → named U z = !nmA U 8 z) := fun z _ hz => by unfold named; rw [nmA_all, decide_eq_true hz, Bool.true_and]
                  clear DD3 TKD
                  go_upto_region 49 with fail
                  clear hlt hi e8
                  generalize (i : Int) = last2 at *
                  go_wp2_with fail
                  generalize wr = wz at *
                  have LFT := hide (unhide CL wz (Blk.keeps (unhide BS).1 (unhide HK) (fun e => (unhide BS).2 e)))
                  have K18 : Hid (wz.heap[g17 + 1]? = some (.cells DB 60 (0, 0))) := ((unhide HK).block (g17 + 1) (lt_heap (unhide B18).1) (unhide B18).2).trans (unhide B18).1
                  have K12 : Hid (wz.heap[g]? = some (.cells DB 25 (0, 0))) := ((unhide HK).block g (lt_heap (unhide B12).1) (unhide B12).2).trans (unhide B12).1
                  have KW : Hid (Below W.heap.size W wz) := by
                    have h1 := (unhide BK).1
                    have h2 := unhide HK
                    exact ⟨h2.os.trans h1.os, h2.tape.trans h1.tape, h2.output.trans h1.output, Nat.le_trans h1.size h2.size, fun k hk => (h2.block k (Nat.lt_of_lt_of_le hk h1.size) (fun e => by have := (unhide BK).2; omega)).trans (h1.block k hk id)⟩
                  have s60 := s60d
                  clear CL HK BS BK B12 B17 B18 B19
                  go_loopw [23, 24] (fun f q wr => ∃ i : Nat, 10 ≤ i ∧ i ≤ 100 ∧ q = .int .i64 i ∧ f = .int .i64 (cnt U i : Int) ∧ wr = wz) (fun _ q _ => 100 - (intOf q).toNat)
                  case atStart => exact ⟨10, by omega, by omega, rfl, by rw [cnt_ten]; rfl, rfl⟩
                  case round =>
                    obtain ⟨i, hi1, hi2, rfl, rfl, rfl⟩ := hrel
                    have hcl := cnt_le U i
                    by_cases hlt : i < 100
                    · have hlt' : (i : Int) < 100 := by omega
                      have cn := cnt_next U i
                      have nb := unhide HNB i hlt hi1
                      have cr : wr.cell? ⟨gr, i, none⟩ = some (.bool (nmA U 8 i)) := by rw [cell_of_block (unhide HR)]; exact rowB_get _ _ hlt
                      cases hb : nmA U 8 i with
                      | true =>
                        rw [hb] at nb cr
                        have HC : Hid (cnt U (i + 1) = cnt U i) := by show _ = _; rw [cn, nb]; rfl
                        clear cn nb hb
                        generalize cnt U i = ci at *
                        go_wp2_with fail
                        go_roundw
                        case rel => exact ⟨i + 1, by omega, by omega, by go_num, by rw [unhide HC], by trivial⟩
                        case measure => simp [intOf]; omega
                      | false =>
                        rw [hb] at nb cr
                        have HC : Hid (cnt U (i + 1) = cnt U i + 1) := by show _ = _; rw [cn, nb]; rfl
                        clear cn nb hb
                        generalize cnt U i = ci at *
                        go_wp2_with fail
                        go_roundw
                        case rel => exact ⟨i + 1, by omega, by omega, by go_num, by rw [unhide HC]; go_num, by trivial⟩
                        case measure => simp [intOf]; omega
                    · have e100 : i = 100 := by omega
                      rw [e100] at hcl
                      have EC : Hid (cnt U i = cnt U 100) := by show _ = _; rw [e100]
                      rw [unhide EC]
                      clear EC
                      generalize cnt U 100 = cc at *
                      go_wp2_with (first | (with_reducible refine wpList_load_row_g (by with_unfolding_all rfl) 60 (.tmp 18) (by with_unfolding_all rfl) (g17 + 1) (by with_unfolding_all rfl) _ _ _ _ (unhide K18) Try.underlying60 (by with_unfolding_all rfl) s60 ?_) | (with_reducible refine wpList_load_row_g (by with_unfolding_all rfl) 25 (.tmp 12) (by with_unfolding_all rfl) g (by with_unfolding_all rfl) _ _ _ _ (unhide K12) Try.underlying25 (by with_unfolding_all rfl) s8d ?_) | (with_reducible refine wpList_eqlA (by with_unfolding_all rfl) 60 60 (.tmp 175) (.tmp 176) (by with_unfolding_all rfl) DB DB (by with_unfolding_all rfl) (by with_unfolding_all rfl) dir_guard true (unhide EQD) ?_) | (go_at_call 28; refine (unhide LFT).mono ?_; rintro e wr ⟨rfl, rfl⟩))
                      go_ret
                      exact ⟨rfl, unhide KW⟩

set_option maxRecDepth 100000 in
theorem lifted (os : Os) (started : os.Started) (H : Type) (enc : TypeId × Value → H) :
    ReturnsInHanded {} Try.checked os 5 .any (Rows.objectsFreeSpec.pre6 enc Try.prog Try.f5 Rows.objectsFreeRow.domain false) (Rows.objectsFreeSpec.post enc Try.prog Try.f5 false true false false) := by
  refine law_frame (C := Try.checked) (ts := [42, 4]) (tb := 4) (by kernel_rfl) started (by kernel_rfl) Try.func5 Try.params5 (by kernel_rfl) Try.underlying4 (by kernel_rfl) (by kernel_rfl) rfl ?_
    (ChangeSpec.witness6 (enc := enc) (C := Try.checked) false ⟨#[], #[.slice none 0 0, .bool false], []⟩ 8 (by kernel_rfl) (by kernel_rfl) (by kernel_rfl) (by kernel_rfl)) ?_
  · intro ds hd
    match ds, hd with
    | [d0, d1], _ => rfl
  · intro W base args ds p hval hA
    obtain ⟨v0, vs0, d0, ds0, p0, q0, hargs, rfl, rfl, h0, r0⟩ := trodAll_cons hA
    obtain ⟨v1, vs1, d1, ds1, p1, q1, rfl, rfl, rfl, h1, r1⟩ := trodAll_cons r0
    obtain ⟨rfl, rfl, rfl⟩ := trodAll_nil r1
    obtain rfl : args = #[v0, v1] := by cases args; simp_all
    obtain ⟨a, n, cap, o, rfl, hO⟩ := open_oops (hval 0 42 v0 rfl rfl) h0
    obtain ⟨c, rfl, rfl, rfl⟩ := open_bool Try.underlying4 (hval 1 4 v1 rfl rfl) h1
    exact walk W a n cap o c hO

theorem over : Rows.objectsFreeRow.holds Try.pinned (OpenSpec.ofChange Rows.objectsFreeSpec) :=
  OpenClaim.holds_of_wide 5 Try.f5 rfl rfl rfl rfl rfl rfl rfl ⟨rfl, rfl, rfl, rfl, rfl⟩ rfl rfl rfl rfl rfl (by kernel_rfl) Try.func5 (by kernel_rfl)
    (of_decide_eq_true (by kernel_rfl)) (by unfold Func.isWrapper; first | (rw [if_pos (by decide +kernel)]; kernel_rfl) | (rw [if_neg (by decide +kernel)]; exact ⟨rfl, rfl⟩))
    (fun os started H enc _ => lifted os started H enc)

end Go.Proofs.Ytjmgmbigbkllgaa.objectsFree
namespace Go.Proofs.Ytjmgmbigbkllgaa
theorem objectsFree_holds : Rows.ObjectsFreeSaid := objectsFree.over
end Go.Proofs.Ytjmgmbigbkllgaa

