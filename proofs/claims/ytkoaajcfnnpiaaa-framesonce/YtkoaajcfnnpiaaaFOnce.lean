/-
  For every row of calls, FramesOnce returns true and leaves its arguments as they were: no line is told twice by Alloc, but if it was free in between. No condition.
-/
import Derived.Test.YtkoaajcfnnpiaaaFArgs
import Derived.Test.YtkoaajcfnnpiaaaLaw
import Derived.Test.YtkoaajcfnnpiaaaRows
namespace Go.Proofs.Ytkoaajcfnnpiaaa.framesOnce
open Go.ChangeShapes Go.WideShapes Go.ChangeAt Go.RowKit Go.Joins
set_option linter.unusedVariables false
set_option linter.unusedSimpArgs false

/-- Whether a line is not free, as the statement books it. -/
def tkn (A : Fr) (i : Nat) : Bool := decide (4 ≤ i) && (A.s i != 0)
structure Inv (A : Fr) : Prop where
  lo : A.lo = 4
  hi : A.hi = 20
theorem Inv.put {A : Fr} (h : Inv A) (i : Nat) (v : Int) : Inv (A.put i v) := ⟨h.lo, h.hi⟩
theorem Inv.turn {A : Fr} (h : Inv A) (z was is : Int) : Inv (A.turnA z was is) := by unfold Fr.turnA; split; exact h.put _ _; exact h
theorem Inv.settle {A : Fr} (h : Inv A) : Inv A.settle := ⟨h.lo, h.hi⟩
def TB (w : World) (L : Nat) (f : Nat → Bool) : Prop := Blk w L 20 4 (fun i => .bool (f i))
theorem TB.set {w : World} {L : Nat} {f : Nat → Bool} (h : TB w L f) (i : Nat) (v : Bool) : TB (w.setCell ⟨L, i, none⟩ (.bool v)) L (upd f i v) :=
  Blk.ext (Blk.set h i (.bool v)) fun j _ => by unfold upd; split <;> rfl
theorem TB.same {w w' : World} {L : Nat} {f : Nat → Bool} (h : TB w L f) (e : w'.heap[L]? = w.heap[L]?) : TB w' L f := by
  unfold TB Blk; rw [e]; exact h
theorem tkn_put (A : Fr) (i : Nat) (h4 : 4 ≤ i) (v : Int) : upd (tkn A) i (v != 0) = tkn (A.put i v) := by
  funext j
  by_cases hj : j = i
  · subst hj; rw [upd_same]; unfold tkn; simp only [h4, decide_true, Bool.true_and]; show _ = (upd A.s j v j != 0); rw [upd_same]
  · rw [upd_other _ _ _ _ hj]; unfold tkn; show _ = (decide (4 ≤ j) && (upd A.s i v j != 0)); rw [upd_other _ _ _ _ hj]
theorem tkn_later {A : Fr} (z : Int) : tkn (A.turnA z 1 2) = tkn A := by
  unfold Fr.turnA
  by_cases h : A.st z = 1
  · rw [if_pos h]
    have hs : A.s z.toNat = 1 := by
      unfold Fr.st at h
      by_cases hf : A.isF z
      · rw [if_pos hf] at h; exact h
      · rw [if_neg hf] at h; exact absurd h (by decide)
    funext j
    unfold tkn
    show (decide (4 ≤ j) && (upd A.s z.toNat 2 j != 0)) = _
    by_cases hj : j = z.toNat
    · rw [hj, upd_same, hs]; rfl
    · rw [upd_other _ _ _ _ hj]
  · rw [if_neg h]
/-- The books behind k lines looked at, once Settle was called. -/
def mix (A : Fr) (k i : Nat) : Bool := if i < k then tkn A.settle i else tkn A i
theorem settle_s (A : Fr) (h : Inv A) (k : Nat) (h4 : 4 ≤ k) (hk : k < 20) : A.settle.s k = if A.s k = 2 then 0 else A.s k := by
  show (if (A.lo ≤ k ∧ k < A.hi) ∧ A.s k = 2 then (0 : Int) else A.s k) = _
  rw [h.lo, h.hi]
  by_cases h2 : A.s k = 2
  · rw [if_pos ⟨⟨h4, hk⟩, h2⟩, if_pos h2]
  · rw [if_neg (fun q => h2 q.2), if_neg h2]
theorem mix_four (A : Fr) (i : Nat) : mix A 4 i = tkn A i := by
  unfold mix tkn
  by_cases h : i < 4
  · rw [if_pos h]; simp [show ¬ 4 ≤ i by omega]
  · rw [if_neg h]
theorem mix_set (A : Fr) (h : Inv A) (k : Nat) (h4 : 4 ≤ k) (hk : k < 20) (h0 : A.settle.s k = 0) : upd (mix A k) k false = mix A (k + 1) := by
  funext j
  unfold mix
  by_cases hj : j = k
  · subst hj; rw [upd_same, if_pos (by omega)]; unfold tkn; rw [h0]; simp
  · rw [upd_other _ _ _ _ hj]
    by_cases h2 : j < k
    · rw [if_pos h2, if_pos (by omega)]
    · rw [if_neg h2, if_neg (by omega)]
theorem mix_same (A : Fr) (h : Inv A) (k : Nat) (h4 : 4 ≤ k) (hk : k < 20) (h0 : A.settle.s k ≠ 0) : mix A k = mix A (k + 1) := by
  funext j
  unfold mix
  by_cases hj : j = k
  · subst hj
    rw [if_neg (by omega), if_pos (by omega)]
    unfold tkn
    rw [settle_s A h j h4 hk] at h0 ⊢
    by_cases h2 : A.s j = 2
    · rw [if_pos h2] at h0; exact absurd rfl h0
    · rw [if_neg h2]
  · by_cases h2 : j < k
    · rw [if_pos h2, if_pos (by omega)]
    · rw [if_neg h2, if_neg (by omega)]
theorem mix_all (A : Fr) (j : Nat) (hj : j < 20) : mix A 20 j = tkn A.settle j := by unfold mix; rw [if_pos hj]
theorem alloc_none {A : Fr} (h : A.first = none) : A.left = 0 := by
  unfold Fr.left Fr.leftTo
  rw [List.countP_eq_zero]
  intro a ha
  rw [first_none_iff.1 h a (List.mem_range.1 ha)]; simp
theorem free_facts {A : Fr} (h : Inv A) (l : Nat) (h4 : 4 ≤ l) (hl : l < 20) : (A.s l = 1 → A.turnA (l : Int) 1 0 = A.put l 0 ∧ A.turnE (l : Int) 1 = 0) ∧ (A.s l ≠ 1 → A.turnA (l : Int) 1 0 = A ∧ A.turnE (l : Int) 1 = 3) ∧ True := by
  have hst : A.st (l : Int) = A.s l := by
    rw [st_nat, if_pos ⟨by rw [h.lo]; omega, by rw [h.hi]; omega⟩]
  have hf : A.isF (l : Int) := ⟨by rw [h.lo]; omega, by rw [h.hi]; omega⟩
  have ht : ((l : Int)).toNat = l := by omega
  refine ⟨fun hs => ⟨?_, ?_⟩, fun hs => ⟨?_, ?_⟩, trivial⟩
  · unfold Fr.turnA; rw [hst, if_pos hs, ht]
  · unfold Fr.turnE; rw [if_pos hf, ht, if_pos hs]
  · unfold Fr.turnA; rw [hst, if_neg hs]
  · unfold Fr.turnE; rw [if_pos hf, ht, if_neg hs]
theorem info_bool : (Try.prog.info? 4).map (fun i => (i.zero, i.size, i.bytes)) = some (some (.bool false), 1, 1) := by kernel_rfl

set_option maxRecDepth 100000 in
set_option maxHeartbeats 1000000 in
theorem walk (W : World) (a : Option Addr) (n cap : Nat) (o : Nat → FOp) (hO : FOpsAt W a n cap o) :
    Calls Try.prog 5 #[.slice a n cap] W fun e W' => e = .returned (.bool true) ∧ Below W.heap.size W W' := by
  obtain ⟨hn, hops⟩ := hO
  have HO := hide hops
  clear hops
  go_enter Try.func5, Try.ntmps5
  go_wp2_with fail
  refine (fshown_any W).mono ?_
  rintro e w0 ⟨rfl, hk0⟩
  go_wp2_with fail
  refine (fnew_any w0 4 20 (by decide) (by decide)).mono ?_
  intro e w1 hm
  obtain ⟨p, rfl, h0, -⟩ := fmade_has W hk0 (new_ok (by decide) (by decide)) hm (fun _ => False) (fun _ h => h.elim)
  have H0 : Hid (FHas W w1 (fun _ => False) p (Fr.new 4 20)) := h0
  clear hm h0 hk0
  obtain ⟨i0, hi, hz0, hz1, hz2⟩ := info_parts info_bool
  go_upto_region 6 with (at_make; refine wpList_make_full _ rfl _ _ 68 rfl w1.heap.size 4 i0 _ 1 Try.underlying68 hi hz0 hz1 .i64 .i64 _ _ 20 rfl rfl rfl rfl (by rw [hz2]; decide) (by decide) (Nat.le_refl _) ?_; intro w2 hown hgrow)
  have hb : TB w2 w1.heap.size (tkn (Fr.new 4 20)) := Blk.ext (fmade_blk rfl hown) fun i _ => by
    unfold tkn Fr.new; simp
  have HK2 : Hid (Keeps (fun _ => False) w1 w2) := Keeps.grown (Keeps.refl _ _) hgrow (fun k hk => by simp at hk)
  have H2 : Hid (FHas W w2 (fun k => k = w1.heap.size) p (Fr.new 4 20)) :=
    ⟨(unhide H0).rep.keeps (unhide HK2) id, (unhide H0).ok, (unhide H0).keeps.trans' (unhide HK2), (unhide H0).new, fun k hk => by subst hk; exact ⟨by have := (unhide H0).rep.lt; omega, Blk.lt hb⟩⟩
  have HWL : Hid (W.heap.size ≤ w1.heap.size) := (unhide H0).keeps.size
  have TBH := hide hb
  obtain ⟨L, hL⟩ : ∃ L, L = w1.heap.size := ⟨_, rfl⟩
  rw [← hL] at H2 TBH HWL ⊢
  clear hown hgrow hb hi hz0 hz1 hz2 i0 HK2 H0 hL
  go_wp2_with fail
  go_loopw [7] (fun i wr => ∃ k : Nat, k ≤ n ∧ k ≤ 150 ∧ i = .int .i64 k ∧ ∃ A, FHas W wr (fun k => k = L) p A ∧ Inv A ∧ TB wr L (tkn A)) (fun i _ => n - (intOf i).toNat)
  case atStart => exact ⟨0, by omega, by omega, rfl, _, unhide H2, ⟨rfl, rfl⟩, unhide TBH⟩
  case round =>
    clear H2 TBH
    obtain ⟨k, hk, hk150, rfl, A, hA, inv, hta⟩ := hrel
    have HA := hide hA
    have TA := hide hta
    clear hA hta
    by_cases hlt : k < n ∧ k < 150
    · obtain ⟨hlt, hl8⟩ := hlt
      obtain ⟨x, off, rfl, hx⟩ : ∃ b off, a = some ⟨b, off, none⟩ ∧ ∀ i, i < n → FOpAt W b (off + i * 2) (o i) := by
        rcases unhide HO with h | h
        · omega
        · exact h
      obtain ⟨u1, u2, u3, u4⟩ := hx k hlt
      generalize o k = q at u1 u2 u3 u4
      have c0 := FKeeps.cellOf (unhide HA).keeps u1 id
      have c1 := FKeeps.cellOf (unhide HA).keeps u2 id
      have hlt' : (k : Int) < (n : Int) := by omega
      have hl8' : (k : Int) < 150 := by omega
      obtain ⟨l, hl⟩ : ∃ l, l = fkN q.line 16 := ⟨_, rfl⟩
      have hl16 : l < 16 := by rw [hl]; exact fkN_lt _ _ (by decide)
      have CL : Hid (Calls Try.prog 27 #[.int .i64 q.line, .int .i64 16] wr fun e w' => e = .returned (.int .i64 (l : Int)) ∧ w' = wr) := by rw [hl]; exact fkind_any q.line u4 16 (by decide) (by decide) _
      obtain ⟨kd, hkd⟩ : ∃ kd, kd = fkN q.kind 5 := ⟨_, rfl⟩
      have hkd5 : kd < 5 := by rw [hkd]; exact fkN_lt _ _ (by decide)
      have CK : Hid (Calls Try.prog 27 #[.int .i64 q.kind, .int .i64 5] wr fun e w' => e = .returned (.int .i64 (kd : Int)) ∧ w' = wr) := by rw [hkd]; exact fkind_any q.kind u3 5 (by decide) (by decide) _
      clear hl hkd u1 u2 u3 u4 hx
      go_wp2_with fail
      refine (unhide CL).mono ?_
      rintro e wr ⟨rfl, rfl⟩
      clear CL
      obtain ⟨ln, hln⟩ : ∃ ln : Nat, ln = 4 + l := ⟨_, rfl⟩
      have HLE : Hid (4 + (l : Int) = (ln : Int)) := by show _ = _; omega
      have hln4 : 4 ≤ ln := by omega
      have hln20 : ln < 20 := by omega
      have y1 : (0 : Int) ≤ (ln : Int) := by omega
      have y2 : (ln : Int) < 20 := by omega
      clear hln
      rcases (show kd = 0 ∨ kd = 1 ∨ kd = 2 ∨ kd = 3 ∨ kd = 4 by omega) with rfl | rfl | rfl | rfl | rfl
      all_goals
        go_wp2_with fail
        rw [unhide HLE]
        refine (unhide CK).mono ?_
        rintro e wr ⟨rfl, rfl⟩
        clear c0 c1 CK HLE
      · skip
        rcases hfst : A.first with _ | a1
        · have ea : A.allocA = A := by unfold Fr.allocA; rw [hfst]
          have ee : A.allocE = 10 := by unfold Fr.allocE; rw [hfst]
          have ev : A.allocV = 0 := by unfold Fr.allocV; rw [hfst]
          have el := alloc_none hfst
          clear hfst
          go_wp2_with fail
          refine ((unhide HA).allocate).mono ?_
          rintro e w2 ⟨rfl, h2, hs2⟩
          rw [ea] at h2
          rw [ee, ev]
          have H1 := hide h2
          have T1 : Hid (TB w2 L (tkn A)) := (unhide TA).same (hs2 L rfl)
          have CL := hide ((unhide H1).left)
          rw [el] at CL
          clear h2 hs2 HA TA ea ee ev el
          go_wp2_with (go_at_call 39; refine (unhide CL).mono ?_; rintro e w2 ⟨rfl, rfl⟩)
          clear CL
          have inv1 := inv
          obtain ⟨A1, hA1⟩ : ∃ A1, A1 = A := ⟨_, rfl⟩
          rw [← hA1] at H1 T1 inv1
          clear hA1 inv
          go_roundw
          case rel => exact ⟨k + 1, by omega, by omega, by go_num, A1, unhide H1, inv1, unhide T1⟩
          case measure => simp [intOf]; omega
        · have ea : A.allocA = A.put a1 1 := by unfold Fr.allocA; rw [hfst]
          have ee : A.allocE = 0 := by unfold Fr.allocE; rw [hfst]
          have ev : A.allocV = (a1 : Int) := by unfold Fr.allocV; rw [hfst]
          obtain ⟨q1, q2, q3⟩ := first_spec hfst
          obtain ⟨q4, q5⟩ := fr_iff.1 q2
          rw [inv.lo] at q4
          rw [inv.hi] at q1
          clear hfst q2 q3
          go_wp2_with fail
          refine ((unhide HA).allocate).mono ?_
          rintro e w2 ⟨rfl, h2, hs2⟩
          rw [ea] at h2
          rw [ee, ev]
          have H2 := hide h2
          have T2 : Hid (TB w2 L (tkn A)) := (unhide TA).same (hs2 L rfl)
          have ct : w2.cell? ⟨L, a1, none⟩ = some (.bool false) := by
            rw [Blk.cell (unhide T2) a1 q1]
            unfold tkn
            rw [q5]; simp
          have cf : w2.frozen? ⟨L, a1, none⟩ = false := Blk.free (unhide T2) a1
          have T1 := hide ((unhide T2).set a1 true)
          rw [show (true : Bool) = ((1 : Int) != 0) from rfl, tkn_put A a1 q4 1] at T1
          have H1 : Hid (FHas W (w2.setCell ⟨L, a1, none⟩ (.bool true)) (fun k => k = L) p (A.put a1 1)) := (unhide H2).own rfl (unhide HWL) (Keeps.setCell (F := (· = L)) (p := ⟨L, a1, none⟩) (Keeps.refl _ _) rfl _)
          have inv1 := inv.put a1 1
          have z1 : ¬ ((a1 : Int) < 4) := by omega
          have z2 : ¬ ((19 : Int) < (a1 : Int)) := by omega
          have z3 : (a1 : Int) < 20 := by omega
          have z4 : (0 : Int) ≤ (a1 : Int) := by omega
          obtain ⟨A1, hA1⟩ : ∃ A1, A1 = A.put a1 1 := ⟨_, rfl⟩
          rw [← hA1] at H1 T1 inv1
          clear h2 hs2 HA TA ea ee ev hA1 inv q4 q5 H2 T2 q1
          go_wp2_with fail
          go_roundw
          case rel => exact ⟨k + 1, by omega, by omega, by go_num, A1, unhide H1, inv1, unhide T1⟩
          case measure => simp [intOf]; omega
      · skip
        rcases hfst : A.first with _ | a1
        · have ea : A.allocA = A := by unfold Fr.allocA; rw [hfst]
          have ee : A.allocE = 10 := by unfold Fr.allocE; rw [hfst]
          have ev : A.allocV = 0 := by unfold Fr.allocV; rw [hfst]
          have el := alloc_none hfst
          clear hfst
          go_wp2_with fail
          refine ((unhide HA).allocate).mono ?_
          rintro e w2 ⟨rfl, h2, hs2⟩
          rw [ea] at h2
          rw [ee, ev]
          have H1 := hide h2
          have T1 : Hid (TB w2 L (tkn A)) := (unhide TA).same (hs2 L rfl)
          have CL := hide ((unhide H1).left)
          rw [el] at CL
          clear h2 hs2 HA TA ea ee ev el
          go_wp2_with (go_at_call 39; refine (unhide CL).mono ?_; rintro e w2 ⟨rfl, rfl⟩)
          clear CL
          have inv1 := inv
          obtain ⟨A1, hA1⟩ : ∃ A1, A1 = A := ⟨_, rfl⟩
          rw [← hA1] at H1 T1 inv1
          clear hA1 inv
          go_roundw
          case rel => exact ⟨k + 1, by omega, by omega, by go_num, A1, unhide H1, inv1, unhide T1⟩
          case measure => simp [intOf]; omega
        · have ea : A.allocA = A.put a1 1 := by unfold Fr.allocA; rw [hfst]
          have ee : A.allocE = 0 := by unfold Fr.allocE; rw [hfst]
          have ev : A.allocV = (a1 : Int) := by unfold Fr.allocV; rw [hfst]
          obtain ⟨q1, q2, q3⟩ := first_spec hfst
          obtain ⟨q4, q5⟩ := fr_iff.1 q2
          rw [inv.lo] at q4
          rw [inv.hi] at q1
          clear hfst q2 q3
          go_wp2_with fail
          refine ((unhide HA).allocate).mono ?_
          rintro e w2 ⟨rfl, h2, hs2⟩
          rw [ea] at h2
          rw [ee, ev]
          have H2 := hide h2
          have T2 : Hid (TB w2 L (tkn A)) := (unhide TA).same (hs2 L rfl)
          have ct : w2.cell? ⟨L, a1, none⟩ = some (.bool false) := by
            rw [Blk.cell (unhide T2) a1 q1]
            unfold tkn
            rw [q5]; simp
          have cf : w2.frozen? ⟨L, a1, none⟩ = false := Blk.free (unhide T2) a1
          have T1 := hide ((unhide T2).set a1 true)
          rw [show (true : Bool) = ((1 : Int) != 0) from rfl, tkn_put A a1 q4 1] at T1
          have H1 : Hid (FHas W (w2.setCell ⟨L, a1, none⟩ (.bool true)) (fun k => k = L) p (A.put a1 1)) := (unhide H2).own rfl (unhide HWL) (Keeps.setCell (F := (· = L)) (p := ⟨L, a1, none⟩) (Keeps.refl _ _) rfl _)
          have inv1 := inv.put a1 1
          have z1 : ¬ ((a1 : Int) < 4) := by omega
          have z2 : ¬ ((19 : Int) < (a1 : Int)) := by omega
          have z3 : (a1 : Int) < 20 := by omega
          have z4 : (0 : Int) ≤ (a1 : Int) := by omega
          obtain ⟨A1, hA1⟩ : ∃ A1, A1 = A.put a1 1 := ⟨_, rfl⟩
          rw [← hA1] at H1 T1 inv1
          clear h2 hs2 HA TA ea ee ev hA1 inv q4 q5 H2 T2 q1
          go_wp2_with fail
          go_roundw
          case rel => exact ⟨k + 1, by omega, by omega, by go_num, A1, unhide H1, inv1, unhide T1⟩
          case measure => simp [intOf]; omega
      · obtain ⟨f1, f2, f3⟩ := free_facts inv ln hln4 hln20
        by_cases hs : A.s (ln) = 1
        · have ea := (f1 hs).1
          have ee := (f1 hs).2
          clear f1 f2
          go_wp2_with fail
          refine ((unhide HA).free ((ln : Int))).mono ?_
          rintro e w2 ⟨rfl, h2, hs2⟩
          rw [ea] at h2
          rw [ee]
          have H2 := hide h2
          have T2 : Hid (TB w2 L (tkn A)) := (unhide TA).same (hs2 L rfl)
          have ct : w2.cell? ⟨L, ln, none⟩ = some (.bool true) := by
            rw [Blk.cell (unhide T2) (ln) (by omega)]
            unfold tkn
            rw [hs]; simp [hln4]
          have cf : w2.frozen? ⟨L, ln, none⟩ = false := Blk.free (unhide T2) (ln)
          have T1 := hide ((unhide T2).set (ln) false)
          rw [show (false : Bool) = ((0 : Int) != 0) from rfl, tkn_put A (ln) (by omega) 0] at T1
          have H1 : Hid (FHas W (w2.setCell ⟨L, ln, none⟩ (.bool false)) (fun k => k = L) p (A.put (ln) 0)) := (unhide H2).own rfl (unhide HWL) (Keeps.setCell (F := (· = L)) (p := ⟨L, ln, none⟩) (Keeps.refl _ _) rfl _)
          have inv1 := inv.put (ln) 0
          obtain ⟨A1, hA1⟩ : ∃ A1, A1 = A.put (ln) 0 := ⟨_, rfl⟩
          rw [← hA1] at H1 T1 inv1
          clear h2 hs2 HA TA ea ee hA1 inv H2 T2 hs f3
          go_wp2_with fail
          go_roundw
          case rel => exact ⟨k + 1, by omega, by omega, by go_num, A1, unhide H1, inv1, unhide T1⟩
          case measure => simp [intOf]; omega
        · have ea := (f2 hs).1
          have ee := (f2 hs).2
          clear f1 f2
          go_wp2_with fail
          refine ((unhide HA).free ((ln : Int))).mono ?_
          rintro e w2 ⟨rfl, h2, hs2⟩
          rw [ea] at h2
          rw [ee]
          have H1 := hide h2
          have T1 : Hid (TB w2 L (tkn A)) := (unhide TA).same (hs2 L rfl)
          clear h2 hs2 HA TA ea ee hs f3
          go_wp2_with fail
          go_roundw
          case rel => exact ⟨k + 1, by omega, by omega, by go_num, A, unhide H1, inv, unhide T1⟩
          case measure => simp [intOf]; omega
      · go_wp2_with fail
        refine ((unhide HA).later ((ln : Int))).mono ?_
        rintro e w2 ⟨rfl, h2, hs2⟩
        have H1 := hide h2
        have T1 : Hid (TB w2 L (tkn (A.turnA ((ln : Int)) 1 2))) := by rw [tkn_later]; exact (unhide TA).same (hs2 L rfl)
        have inv1 := inv.turn ((ln : Int)) 1 2
        generalize A.turnA ((ln : Int)) 1 2 = A1 at H1 T1 inv1
        generalize A.turnE ((ln : Int)) 1 = ae
        clear h2 hs2 HA TA
        go_wp2_with fail
        go_roundw
        case rel => exact ⟨k + 1, by omega, by omega, by go_num, A1, unhide H1, inv1, unhide T1⟩
        case measure => simp [intOf]; omega
      · go_wp2_with fail
        refine ((unhide HA).settle).mono ?_
        rintro e w2 ⟨rfl, h2, hs2⟩
        have H2 := hide h2
        have T2 : Hid (TB w2 L (mix A 4)) := Blk.ext ((unhide TA).same (hs2 L rfl)) fun i _ => by rw [mix_four]
        clear h2 hs2 HA TA
        go_wp2_with fail
        go_loopw [11] (fun i wz => ∃ m : Nat, 4 ≤ m ∧ m ≤ 20 ∧ i = .int .i64 m ∧ FHas W wz (fun k => k = L) p A.settle ∧ TB wz L (mix A m)) (fun i _ => 20 - (intOf i).toNat)
        case atStart => exact ⟨4, by omega, by omega, rfl, unhide H2, unhide T2⟩
        case round =>
          clear H2 T2
          obtain ⟨m, hm4, hm, rfl, hz, htz⟩ := hrel
          have HZ := hide hz
          have TZ := hide htz
          clear hz htz
          by_cases hlm : m < 20
          · have hlm' : (m : Int) < 20 := by omega
            have hm0 : (0 : Int) ≤ (m : Int) := by omega
            have CS := hide ((unhide HZ).state (m : Int))
            have est : A.settle.st (m : Int) = A.settle.s m := by
              rw [st_nat, if_pos (show A.settle.lo ≤ m ∧ m < A.settle.hi from ⟨by rw [inv.settle.lo]; exact hm4, by rw [inv.settle.hi]; exact hlm⟩)]
            rw [est] at CS
            clear est
            by_cases h0 : A.settle.s m = 0
            · have T1 := hide ((unhide TZ).set m false)
              rw [mix_set A inv m hm4 hlm h0] at T1
              have H1 : Hid (FHas W (wr.setCell ⟨L, m, none⟩ (.bool false)) (fun k => k = L) p A.settle) := (unhide HZ).own rfl (unhide HWL) (Keeps.setCell (F := (· = L)) (p := ⟨L, m, none⟩) (Keeps.refl _ _) rfl _)
              have ct := Blk.cell (unhide TZ) m hlm
              generalize mix A m m = old at ct
              have cf : wr.frozen? ⟨L, m, none⟩ = false := Blk.free (unhide TZ) m
              rw [h0] at CS
              clear h0
              go_wp2_with fail
              refine (unhide CS).mono ?_
              rintro e wr ⟨rfl, rfl⟩
              go_wp2_with fail
              go_roundw
              case rel => exact ⟨m + 1, by omega, by omega, by go_num, unhide H1, unhide T1⟩
              case measure => simp [intOf]; omega
            · have T1 := TZ
              rw [mix_same A inv m hm4 hlm h0] at T1
              have h0' : (A.settle.s m == (0 : Int)) = false := by simpa using h0
              generalize A.settle.s m = sm at h0' CS
              clear h0 TZ
              go_wp2_with fail
              refine (unhide CS).mono ?_
              rintro e wr ⟨rfl, rfl⟩
              go_wp2_with fail
              go_roundw
              case rel => exact ⟨m + 1, by omega, by omega, by go_num, unhide HZ, unhide T1⟩
              case measure => simp [intOf]; omega
          · have hlm' : ¬ ((m : Int) < 20) := by omega
            have T1 : Hid (TB wr L (tkn A.settle)) := Blk.ext (unhide TZ) fun i hi => by rw [show m = 20 by omega, mix_all A i hi]
            have inv1 := inv.settle
            have H1 := HZ
            generalize A.settle = A1 at H1 T1 inv1
            clear TZ HZ
            go_wp2_with fail
            go_roundw
            case rel => exact ⟨k + 1, by omega, by omega, by go_num, A1, unhide H1, inv1, unhide T1⟩
            case measure => simp [intOf]; omega
    · have hor : ¬ ((k : Int) < (n : Int)) ∨ ((k : Int) < (n : Int) ∧ ¬ ((k : Int) < 150)) := by omega
      rcases hor with h1 | ⟨h1, h2⟩
      · go_wp2_with fail
        go_ret
        exact ⟨rfl, (unhide HA).keeps.below (Nat.le_refl _) (fun _ h => h.elim)⟩
      · go_wp2_with fail
        go_ret
        exact ⟨rfl, (unhide HA).keeps.below (Nat.le_refl _) (fun _ h => h.elim)⟩

set_option maxRecDepth 100000 in
theorem lifted (os : Os) (started : os.Started) (H : Type) (enc : TypeId × Value → H) :
    ReturnsInHanded {} Try.checked os 5 .any (Rows.framesOnceSpec.pre6 enc Try.prog Try.f5 Rows.framesOnceRow.domain false) (Rows.framesOnceSpec.post enc Try.prog Try.f5 false true false false) := by
  refine law_frame (C := Try.checked) (ts := [52]) (tb := 4) (by kernel_rfl) started (by kernel_rfl) Try.func5 Try.params5 (by kernel_rfl) Try.underlying4 (by kernel_rfl) (by kernel_rfl) rfl ?_
    (ChangeSpec.witness6 (enc := enc) (C := Try.checked) false ⟨#[], #[.slice none 0 0], []⟩ 8 (by kernel_rfl) (by kernel_rfl) (by kernel_rfl) (by kernel_rfl)) ?_
  · intro ds hd
    match ds, hd with
    | [d0], _ => rfl
  · intro W base args ds p hval hA
    obtain ⟨v0, vs0, d0, ds0, p0, q0, hargs, rfl, rfl, h0, r0⟩ := trodAll_cons hA
    obtain ⟨rfl, rfl, rfl⟩ := trodAll_nil r0
    obtain rfl : args = #[v0] := by cases args; simp_all
    obtain ⟨a, n, cap, o, rfl, hO⟩ := open_fops (hval 0 52 v0 rfl rfl) h0
    exact walk W a n cap o hO

theorem over : Rows.framesOnceRow.holds Try.pinned (OpenSpec.ofChange Rows.framesOnceSpec) :=
  OpenClaim.holds_of_wide 5 Try.f5 rfl rfl rfl rfl rfl rfl rfl ⟨rfl, rfl, rfl, rfl, rfl⟩ rfl rfl rfl rfl rfl (by kernel_rfl) Try.func5 (by kernel_rfl)
    (of_decide_eq_true (by kernel_rfl)) (by unfold Func.isWrapper; first | (rw [if_pos (by decide +kernel)]; kernel_rfl) | (rw [if_neg (by decide +kernel)]; exact ⟨rfl, rfl⟩))
    (fun os started H enc _ => lifted os started H enc)

end Go.Proofs.Ytkoaajcfnnpiaaa.framesOnce
namespace Go.Proofs.Ytkoaajcfnnpiaaa
theorem framesOnce_holds : Rows.FramesOnceSaid := framesOnce.over
end Go.Proofs.Ytkoaajcfnnpiaaa
