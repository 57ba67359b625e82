
/-
  For every count, root and number, SuperTurns returns true: superblocks that are written to the slots by turns, of rising generations, are found, each behind its Write, and behind a Crash. No condition.
-/
import Derived.Test.YtmmgacpipcgkdaaPkEnd
import Derived.Test.YtmmgacpipcgkdaaSLastMath
import Derived.Test.YtmmgacpipcgkdaaRows
import Derived.Deep.Cut
namespace Go.Proofs.Ytmmgacpipcgkdaa.superTurns
open Go.ChangeShapes Go.WideShapes Go.ChangeAt Go.RowKit Go.Joins
set_option linter.unusedVariables false
set_option linter.unusedSimpArgs false

/-- The superblock of the turn m. -/
def sup (r q : Nat) (m : Nat) : List Int := [(m : Int), (r : Int), (q : Int), 1 + (m : Int) % 8]
theorem sup_cells (r q m : Nat) : (#[.int .i64 (m : Int), .int .i64 (r : Int), .int .i64 (q : Int), .int .i64 (1 + (m : Int) % 8)] : Array Value) = iv .i64 (sup r q m) := rfl
theorem sup_may (r q m : Nat) (hr : r < 1024) (hq : q < 1000) (h1 : 1 ≤ m) (h2 : m ≤ 20) : mayS (sup r q m) = true := by
  rw [mayS_iff]
  simp only [sup, List.getD_cons_zero, List.getD_cons_succ]
  omega
theorem sup_gen (r q m : Nat) : (sup r q m).getD 0 0 = (m : Int) := rfl
/-- Behind j turns. -/
structure Inv (r q j : Nat) (A : Mm) : Prop where
  ok : A.ok (11 * j)
  on : A.on = true
  fuse : A.fuse = -1
  t : ∀ i, (A.l i).t = []
  new : 1 ≤ j → rowOf (A.l (j % 2)).s = lineS (sup r q j)
  zero : j = 0 → isS (rowOf (A.l 0).s) = false
  old : (2 ≤ j ∧ rowOf (A.l ((j + 1) % 2)).s = lineS (sup r q (j - 1))) ∨ isS (rowOf (A.l ((j + 1) % 2)).s) = false
theorem inv0 (r q : Nat) : Inv r q 0 (Mm.new 64 fun _ _ => 0) where
  ok := ok_new (by decide) (by decide) (fun _ _ => ⟨by decide, by decide⟩)
  on := rfl
  fuse := rfl
  t := fun _ => rfl
  new := fun h => by omega
  zero := fun _ => isS_nought _ rfl
  old := Or.inr (isS_nought _ rfl)
/-- What is found in a memory whose slot m % 2 has the turn m, the other the turn before it, or none. -/
theorem found (r q m : Nat) (hr : r < 1024) (hq : q < 1000) (h1 : 1 ≤ m) (h2 : m ≤ 20) (B : Mm) (hon : B.on = true) (ht : ∀ i, (B.l i).t = []) (hn : rowOf (B.l (m % 2)).s = lineS (sup r q m))
    (ho : (2 ≤ m ∧ rowOf (B.l ((m + 1) % 2)).s = lineS (sup r q (m - 1))) ∨ isS (rowOf (B.l ((m + 1) % 2)).s) = false) : B.findV = sup r q m ∧ B.findAt = ((m % 2 : Nat) : Int) ∧ B.findE = 0 := by
  have hm := sup_may r q m hr hq h1 h2
  unfold Mm.findV Mm.findAt Mm.findE Mm.bestM
  rw [hon, has_sure (ht 0), has_sure (ht 1)]
  have key : bestIs (rowOf (B.l 0).s) (rowOf (B.l 1).s) = true ∧ bestV (rowOf (B.l 0).s) (rowOf (B.l 1).s) = sup r q m ∧ bestAt (rowOf (B.l 0).s) (rowOf (B.l 1).s) = ((m % 2 : Nat) : Int) := by
    rcases Nat.mod_two_eq_zero_or_one m with h | h
    · rw [h] at hn
      rw [show (m + 1) % 2 = 1 by omega] at ho
      rw [hn, h]
      rcases ho with ⟨h3, ho⟩ | ho
      · obtain ⟨b1, b2, b3⟩ := best_both (sup r q m) (sup r q (m - 1)) rfl hm rfl (sup_may r q (m - 1) hr hq (by omega) (by omega))
        rw [if_neg (by rw [sup_gen, sup_gen]; omega)] at b2 b3
        rw [ho]; exact ⟨b1, b2, b3⟩
      · exact best_one (sup r q m) rfl hm _ ho
    · rw [h] at hn
      rw [show (m + 1) % 2 = 0 by omega] at ho
      rw [hn, h]
      rcases ho with ⟨h3, ho⟩ | ho
      · obtain ⟨b1, b2, b3⟩ := best_both (sup r q (m - 1)) (sup r q m) rfl (sup_may r q (m - 1) hr hq (by omega) (by omega)) rfl hm
        rw [if_pos (by rw [sup_gen, sup_gen]; omega)] at b2 b3
        rw [ho]; exact ⟨b1, b2, b3⟩
      · exact best_other (sup r q m) rfl hm _ ho
  rw [key.1, key.2.1, key.2.2]
  exact ⟨rfl, rfl, rfl⟩
theorem next (r q j : Nat) (hr : r < 1024) (hq : q < 1000) (hj : j < 20) (A : Mm) (h : Inv r q j A) (c k : Int) (ec : c = ((j + 1) % 8 : Nat)) (ek : k = ((j + 1) % 2 : Nat)) :
    A.writeE c k (sup r q (j + 1)) = 0 ∧ (A.writeZ c k (sup r q (j + 1))).ok (11 * (j + 1)) ∧
    ((A.writeZ c k (sup r q (j + 1))).findV = sup r q (j + 1) ∧ (A.writeZ c k (sup r q (j + 1))).findAt = k ∧ (A.writeZ c k (sup r q (j + 1))).findE = 0) ∧
    (((A.writeZ c k (sup r q (j + 1))).crash []).findV = sup r q (j + 1) ∧ ((A.writeZ c k (sup r q (j + 1))).crash []).findAt = k ∧ ((A.writeZ c k (sup r q (j + 1))).crash []).findE = 0) ∧
    Inv r q (j + 1) ((A.writeZ c k (sup r q (j + 1))).crash []) := by
  have hm := sup_may r q (j + 1) hr hq (by omega) (by omega)
  have hn := h.ok.1
  have hc : is8 c := by unfold is8; omega
  have hok : (A.writeZ c k (sup r q (j + 1))).ok (11 * (j + 1)) := ok_mono (ok_writeZ h.ok c k (sup r q (j + 1))) (by omega)
  obtain ⟨w1, w2, w3⟩ := wrote_free A h.on h.fuse hn c hc k ((j + 1) % 2) ek (by omega) (sup r q (j + 1)) hm
  have ww := wrote A h.t hn c hc k ((j + 1) % 2) ek (by omega) (sup r q (j + 1)) hm
  rw [w1] at ww
  generalize A.writeZ c k (sup r q (j + 1)) = B at *
  have hk : rowOf (B.l ((j + 1) % 2)).s = lineS (sup r q (j + 1)) ∧ (B.l ((j + 1) % 2)).t = [] := by
    rcases ww.w with ⟨m, -, -, -, h⟩ | ⟨h1, h2⟩
    · exact absurd rfl h
    · rw [h1]; exact ⟨row_eight _ (lineS_len _) _, h2⟩
  have ht : ∀ i, (B.l i).t = [] := fun i => by
    by_cases hi : i = (j + 1) % 2
    · rw [hi]; exact hk.2
    · exact (ww.o i hi).2
  have hO : (2 ≤ j + 1 ∧ rowOf (B.l ((j + 1 + 1) % 2)).s = lineS (sup r q (j + 1 - 1))) ∨ isS (rowOf (B.l ((j + 1 + 1) % 2)).s) = false := by
    rw [show (j + 1 + 1) % 2 = j % 2 by omega, (ww.o (j % 2) (by omega)).1, show j + 1 - 1 = j by omega]
    rcases Nat.eq_zero_or_pos j with h0 | h0
    · right
      rw [show j % 2 = 0 by omega]; exact h.zero h0
    · exact Or.inl ⟨by omega, h.new h0⟩
  have hsure : ∀ i, ((B.crash []).l i).s = (B.l i).s := fun i => crash_sure B [] i (ht i)
  have f1 := found r q (j + 1) hr hq (by omega) (by omega) B w2 ht hk.1 hO
  have f2 := found r q (j + 1) hr hq (by omega) (by omega) (B.crash []) rfl (crash_t B []) (by rw [hsure]; exact hk.1) (by rw [hsure]; exact hO)
  rw [← ek] at f1 f2
  exact ⟨w1, hok, f1, f2, ok_crash hok [], rfl, rfl, crash_t B [], fun _ => by rw [hsure]; exact hk.1, fun h => by omega, by rw [hsure]; exact hO⟩

set_option maxHeartbeats 4000000 in
set_option maxRecDepth 100000 in
theorem walk (n root seq : Int) (wn : (Lit.int .i64 n).wf = true) (wr : (Lit.int .i64 root).wf = true) (ws : (Lit.int .i64 seq).wf = true) (W : World) :
    Calls Try.prog 8 #[.int .i64 n, .int .i64 root, .int .i64 seq] W fun e W' => e = .returned (.bool true) ∧ Below W.heap.size W W' := by
  have CN := hide (skind_any n (inI_wf wn) 21 (by decide) (by decide))
  have CR := hide (skind_any root (inI_wf wr) 1024 (by decide) (by decide))
  have CS := hide (skind_any seq (inI_wf ws) 1000 (by decide) (by decide))
  have hN := kindN_lt n 21 (by decide)
  have hR := hide (kindN_lt root 1024 (by decide))
  have hQ := hide (kindN_lt seq 1000 (by decide))
  generalize kindN n 21 = N at *
  generalize kindN root 1024 = r at *
  generalize kindN seq 1000 = q at *
  clear wn wr ws
  have O0 := hide (Own.start W)
  go_enter Try.func8, Try.ntmps8
  go_wp2_with fail
  refine (shown_any _).mono ?_
  rintro e w1 ⟨rfl, hb⟩
  have O1 := hide ((unhide O0).call hb)
  clear hb O0
  go_wp2_with fail
  refine (new_any w1 64 (by decide) (by decide)).mono ?_
  intro e w2 hm
  obtain ⟨b, rfl, h2⟩ := held_made (unhide O1) (by simp) hm
  have O2 := hide h2.st
  clear hm h2 O1
  have I0 := hide (inv0 r q)
  generalize (Mm.new 64 fun _ _ => 0) = A0 at *
  go_wp2_with fail
  go_loopw [10] (fun i wv => ∃ j m : Nat, m = j + 1 ∧ j ≤ N ∧ i = .int .i64 (m : Int) ∧ ∃ A, Has W wv (fun _ => False) b A ∧ Inv r q j A) (fun i _ => 30 - (intOf i).toNat)
  case atStart => exact ⟨0, 1, rfl, by omega, rfl, A0, (unhide O2).less (by simp), unhide I0⟩
  case round =>
    clear O2 I0
    obtain ⟨j, m, hm, hj, rfl, A, hA, hI⟩ := hrel
    have T := hide (Has.stay W b A)
    have O0 := hide (Held.start (unhide T) hA)
    have HI := hide hI
    have HM := hide hm
    have hm1 : 1 ≤ m := by omega
    have hm21 : m ≤ 21 := by omega
    have HJ := hide hj
    clear hA hI hm
    by_cases hlt : m ≤ N
    · have hle : (m : Int) ≤ (N : Int) := by omega
      obtain ⟨nE, nO, nF, nG, nI⟩ := next r q j (unhide hR) (unhide hQ) (by have := unhide HM; omega) A (unhide HI) ((m : Int) % 8) ((m : Int) % 2) (by rw [unhide HM]; omega) (by rw [unhide HM]; omega)
      rw [← unhide HM] at nE nO nF nG nI
      have hok := ok_mono (unhide HI).ok (show 11 * j ≤ 900 by have := unhide HM; omega)
      obtain ⟨B, hB⟩ : ∃ B, B = A.writeZ ((m : Int) % 8) ((m : Int) % 2) (sup r q m) := ⟨_, rfl⟩
      rw [← hB] at nO nF nG nI
      obtain ⟨C, hC⟩ : ∃ C, C = B.crash [] := ⟨_, rfl⟩
      rw [← hC] at nG nI
      have CW : Hid (∀ w G, Has W w G b A → Calls Try.prog 19 #[.pointer (some ⟨b, 0, none⟩), .int .i64 ((m : Int) % 8), .int .i64 ((m : Int) % 2), .agg (iv .i64 (sup r q m))] w (After W w G b B (.int .i64 0))) := fun w G h => by
        have := h.write hok ((m : Int) % 8) ((m : Int) % 2) (sup r q m) rfl
        rw [nE, ← hB] at this; exact this
      have CF : Hid (∀ w G, Has W w G b B → Calls Try.prog 24 #[.pointer (some ⟨b, 0, none⟩)] w (After W w G b B (.tuple #[.agg (iv .i64 (sup r q m)), .int .i64 ((m : Int) % 2), .int .i64 0]))) := fun w G h => by
        have := h.find (ok_mono nO (show 11 * m ≤ 1000 by omega))
        rw [nF.1, nF.2.1, nF.2.2] at this; exact this
      have CC : Hid (∀ w G, Has W w G b B → Calls Try.prog 26 #[.pointer (some ⟨b, 0, none⟩), .slice none 0 0] w (After W w G b C (.tuple #[]))) := fun w G h => by
        have := h.crash_nil (ok_mono nO (show 11 * m ≤ 1000 by omega))
        rw [← hC] at this; exact this
      have CG : Hid (∀ w G, Has W w G b C → Calls Try.prog 24 #[.pointer (some ⟨b, 0, none⟩)] w (After W w G b C (.tuple #[.agg (iv .i64 (sup r q m)), .int .i64 ((m : Int) % 2), .int .i64 0]))) := fun w G h => by
        have := h.find (ok_mono nI.ok (show 11 * m ≤ 1000 by omega))
        rw [nG.1, nG.2.1, nG.2.2] at this; exact this
      have NI := hide nI
      have SC := hide (sup_cells r q m)
      have TB := hide (Has.stay W b B)
      have TC := hide (Has.stay W b C)
      have nS := iv_new .i64 (sup r q m) 4 rfl 23
      have zS : (iv .i64 (sup r q m)).size = 4 := rfl
      have sS := info4 (show (sup r q m).length = 4 from rfl)
      have EV : Hid (∀ w, (Op.equalIn 10000 23 (.agg (iv .i64 (sup r q m))) (.agg (iv .i64 (sup r q m)))).run Try.prog w = .ok true w) := fun w => by rw [equal_super _ _ rfl rfl]; simp
      clear nE nO nF nG nI HI hok hB hC HJ
      generalize iv .i64 (sup r q m) = S at *
      go_wp2_with fail
      refine (unhide CN _).mono ?_
      rintro e wr ⟨rfl, rfl⟩
      go_wp2_with fail
      refine (unhide CR _).mono ?_
      rintro e wr ⟨rfl, rfl⟩
      go_wp2_with fail
      refine (unhide CS _).mono ?_
      rintro e wr ⟨rfl, rfl⟩
      go_wp2_with fail
      rw [unhide SC]
      have O1 := hide ((unhide O0).alloc (unhide T) (.cells S 23))
      clear O0 SC
      refine (unhide CW _ _ (unhide O1).st).mono ?_
      rintro e w3 ⟨rfl, h1, h2⟩
      have O3 := hide ((unhide O1).call (St' := fun w G => Has W w G b B) h1 h2)
      clear h1 h2 O1 CW
      go_wp2_with fail
      refine (unhide CF _ _ (unhide O3).st).mono ?_
      rintro e w4 ⟨rfl, h1, h2⟩
      have O4 := hide (((unhide O3).call (St' := fun w G => Has W w G b B) h1 h2).alloc (unhide TB) (.cells S 23))
      clear h1 h2 O3 CF
      go_wp2_with fail
      refine (unhide CC _ _ (unhide O4).st).mono ?_
      rintro e w5 ⟨rfl, h1, h2⟩
      have O5 := hide ((unhide O4).call (St' := fun w G => Has W w G b C) h1 h2)
      clear h1 h2 O4 CC
      go_wp2_with fail
      refine (unhide CG _ _ (unhide O5).st).mono ?_
      rintro e w6 ⟨rfl, h1, h2⟩
      have O6 := hide (((unhide O5).call (St' := fun w G => Has W w G b C) h1 h2).alloc (unhide TC) (.cells S 23))
      clear h1 h2 O5 CG
      have K11 := hide ((unhide O6).at wr.heap.size (.cells S 23) (by simp))
      have K12 := hide ((unhide O6).at w4.heap.size (.cells S 23) (by simp))
      have K15 := hide ((unhide O6).at w6.heap.size (.cells S 23) (by simp))
      have HC := hide ((unhide O6).st.less (G' := fun _ => False) (by simp))
      go_upto_region 14 with fail
      go_step
      go_wp2_with (first | (with_reducible refine wpList_load_row_g (by with_unfolding_all rfl) 23 (.tmp 12) (by with_unfolding_all rfl) w4.heap.size (by with_unfolding_all rfl) _ _ _ _ (unhide K12) Try.underlying23 (by with_unfolding_all rfl) sS ?_) | (with_reducible refine wpList_load_row_g (by with_unfolding_all rfl) 23 (.tmp 11) (by with_unfolding_all rfl) wr.heap.size (by with_unfolding_all rfl) _ _ _ _ (unhide K11) Try.underlying23 (by with_unfolding_all rfl) sS ?_) | (with_reducible refine wpList_load_row_g (by with_unfolding_all rfl) 23 (.tmp 15) (by with_unfolding_all rfl) w6.heap.size (by with_unfolding_all rfl) _ _ _ _ (unhide K15) Try.underlying23 (by with_unfolding_all rfl) sS ?_) | (with_reducible refine wpList_neqA (by with_unfolding_all rfl) 23 23 (.tmp 73) (.tmp 74) (by with_unfolding_all rfl) S S (by with_unfolding_all rfl) (by with_unfolding_all rfl) super_guard _ (unhide EV) ?_) | (with_reducible refine wpList_neqA (by with_unfolding_all rfl) 23 23 (.tmp 78) (.tmp 79) (by with_unfolding_all rfl) S S (by with_unfolding_all rfl) (by with_unfolding_all rfl) super_guard _ (unhide EV) ?_))
      go_roundw
      case rel => exact ⟨m, m + 1, rfl, hlt, by go_num, C, unhide HC, unhide NI⟩
      case measure => simp [intOf]; omega
    · have hle : ¬ (m : Int) ≤ (N : Int) := by omega
      go_wp2_with fail
      refine (unhide CN _).mono ?_
      rintro e wr ⟨rfl, rfl⟩
      go_wp2_with fail
      go_ret
      exact ⟨rfl, held_below (unhide T) (unhide O0)⟩

set_option maxRecDepth 100000 in
theorem lifted (os : Os) (started : os.Started) (H : Type) (enc : TypeId × Value → H) :
    ReturnsInHanded {} Try.checked os 8 .any (Rows.superTurnsSpec.pre6 enc Try.prog Try.f8 Rows.superTurnsRow.domain false) (Rows.superTurnsSpec.post enc Try.prog Try.f8 false true false false) := by
  refine law_frame (C := Try.checked) (ts := [3, 3, 3]) (tb := 4) (by kernel_rfl) started (by kernel_rfl) Try.func8 Try.params8 (by kernel_rfl) Try.underlying4 (by kernel_rfl) (by kernel_rfl) rfl ?_
    (ChangeSpec.witness6 (enc := enc) (C := Try.checked) false ⟨#[], #[.int .i64 0, .int .i64 0, .int .i64 0], []⟩ 8 (by kernel_rfl) (by kernel_rfl) (by kernel_rfl) (by kernel_rfl)) ?_
  · intro ds hd
    match ds, hd with
    | [d0, d1, d2], _ => rfl
  · intro W base args ds p hval hA
    obtain ⟨v0, vs0, d0, ds0, p0, q0, hargs, rfl, rfl, h0, r0⟩ := trodAll_cons hA
    obtain ⟨v1, vs1, d1, ds1, p1, q1, rfl, rfl, rfl, h1, r1⟩ := trodAll_cons r0
    obtain ⟨v2, vs2, d2, ds2, p2, q2, rfl, rfl, rfl, h2, r2⟩ := trodAll_cons r1
    obtain ⟨rfl, rfl, rfl⟩ := trodAll_nil r2
    obtain rfl : args = #[v0, v1, v2] := by cases args; simp_all
    obtain ⟨n, rfl, rfl, rfl, wn⟩ := open_int Try.underlying3 (hval 0 3 v0 rfl rfl) h0
    obtain ⟨root, rfl, rfl, rfl, wroot⟩ := open_int Try.underlying3 (hval 1 3 v1 rfl rfl) h1
    obtain ⟨seq, rfl, rfl, rfl, wseq⟩ := open_int Try.underlying3 (hval 2 3 v2 rfl rfl) h2
    exact walk n root seq wn wroot wseq W

theorem over : Rows.superTurnsRow.holds Try.pinned (OpenSpec.ofChange Rows.superTurnsSpec) :=
  OpenClaim.holds_of_wide 8 Try.f8 rfl rfl rfl rfl rfl rfl rfl ⟨rfl, rfl, rfl, rfl, rfl⟩ rfl rfl rfl rfl rfl (by kernel_rfl) Try.func8 (by kernel_rfl)
    (of_decide_eq_true (by kernel_rfl)) (by unfold Func.isWrapper; first | (rw [if_pos (by decide +kernel)]; kernel_rfl) | (rw [if_neg (by decide +kernel)]; exact ⟨rfl, rfl⟩))
    (fun os started H enc _ => lifted os started H enc)

end Go.Proofs.Ytmmgacpipcgkdaa.superTurns
namespace Go.Proofs.Ytmmgacpipcgkdaa
theorem superTurns_holds : Rows.SuperTurnsSaid := superTurns.over
end Go.Proofs.Ytmmgacpipcgkdaa
