/-
  For every two numbers and every row of calls, FramesPlay returns true and leaves its arguments as they were: frames do any calls as the document says, clones too. No condition.
-/
import Derived.Test.YtkoaajcfnnpiaaaFRef
import Derived.Test.YtkoaajcfnnpiaaaLaw
import Derived.Test.YtkoaajcfnnpiaaaRows
namespace Go.Proofs.Ytkoaajcfnnpiaaa.framesPlay
open Go.ChangeShapes Go.WideShapes Go.ChangeAt Go.RowKit Go.Joins
set_option linter.unusedVariables false
set_option linter.unusedSimpArgs false

def opv (q : FOp) : Array Value := #[.int .i64 q.kind, .int .i64 q.line]
theorem opv_size (q : FOp) : (opv q).size = 2 := rfl
theorem fopsize : (Try.prog.info? 60).map (·.size) = some 2 := by kernel_rfl
theorem opv_one (q : FOp) : (opv q).all (·.oneCell') = true := by simp [opv, Value.oneCell']
theorem store_opv (q : FOp) : ∀ (U : World) (C : Array Value), C.size = 2 → Sem.run Try.prog (storeCells ⟨U.heap.size, 0, none⟩ (opv q).toList) (U.alloc (.cells C 60)) = .ok () (U.alloc (.cells (opv q) 60)) :=
  fun U C hC => run_store_new _ _ rfl C _ _ (by rw [hC, opv_size]) (opv_one _)
theorem opv_range {W : World} {b o : Nat} {q : FOp} (h1 : W.cell? ⟨b, o, none⟩ = some (.int .i64 q.kind)) (h2 : W.cell? ⟨b, o + 1, none⟩ = some (.int .i64 q.line)) : W.rangeAt b o (opv q).toList := fun j v hv => by
  match j with
  | 0 => simp [opv] at hv; rw [← hv]; exact h1
  | 1 => simp [opv] at hv; rw [← hv]; exact h2
  | j + 2 => simp [opv] at hv
/-- Frames of just these lines. -/
structure Of (lo hi : Nat) (A : Fr) : Prop where
  lo : A.lo = lo
  hi : A.hi = hi
theorem Of.put {lo hi : Nat} {A : Fr} (h : Of lo hi A) (i : Nat) (v : Int) : Of lo hi (A.put i v) := ⟨h.lo, h.hi⟩
theorem Of.turn {lo hi : Nat} {A : Fr} (h : Of lo hi A) (z was is : Int) : Of lo hi (A.turnA z was is) := by unfold Fr.turnA; split; exact h.put _ _; exact h
theorem Of.settle {lo hi : Nat} {A : Fr} (h : Of lo hi A) : Of lo hi A.settle := ⟨h.lo, h.hi⟩
theorem Of.alloc {lo hi : Nat} {A : Fr} (h : Of lo hi A) : Of lo hi A.allocA := by unfold Fr.allocA; split; exact h.put _ _; exact h

set_option maxRecDepth 100000 in
set_option maxHeartbeats 2000000 in
theorem walk (W : World) (x1 x2 : Int) (a : Option Addr) (n cap : Nat) (o : Nat → FOp) (w1 : (Lit.int .i64 x1).wf = true) (w2 : (Lit.int .i64 x2).wf = true) (hO : FOpsAt W a n cap o) :
    Calls Try.prog 4 #[.int .i64 x1, .int .i64 x2, .slice a n cap] W fun e W' => e = .returned (.bool true) ∧ Below W.heap.size W W' := by
  obtain ⟨hn, hops⟩ := hO
  have HO := hide hops
  clear hops
  by_cases hbad : x1 < 0 ∨ x2 < x1 ∨ 1024 < x2
  · have HB := hide hbad
    clear hbad w1 w2
    go_enter Try.func4, Try.ntmps4
    go_wp2_with fail
    refine (fshown_any W).mono ?_
    rintro e w0 ⟨rfl, hk0⟩
    have HK := hide hk0
    clear hk0
    go_wp2_with fail
    refine (fnew_bad w0 x1 x2 (unhide HB)).mono ?_
    rintro e w0 ⟨rfl, rfl⟩
    go_wp2_with fail
    refine (rfnew_bad w0 x1 x2 (unhide HB)).mono ?_
    rintro e w0 ⟨rfl, rfl⟩
    go_wp2_with fail
    go_ret
    exact ⟨rfl, (unhide HK).below (Nat.le_refl _) (fun _ h => h.elim)⟩
  · obtain ⟨lo, rfl⟩ : ∃ lo : Nat, x1 = (lo : Int) := ⟨x1.toNat, by omega⟩
    obtain ⟨hi, rfl⟩ : ∃ hi : Nat, x2 = (hi : Int) := ⟨x2.toNat, by omega⟩
    have hlh : lo ≤ hi := by omega
    have h1024 : hi ≤ 1024 := by omega
    clear hbad w1 w2
    go_enter Try.func4, Try.ntmps4
    go_wp2_with fail
    refine (fshown_any W).mono ?_
    rintro e w0 ⟨rfl, hk0⟩
    go_wp2_with fail
    refine (fnew_any w0 lo hi hlh h1024).mono ?_
    intro e w1 hm
    obtain ⟨p, rfl, h0, -⟩ := fmade_has W hk0 (new_ok hlh h1024) hm (fun _ => False) (fun _ h => h.elim)
    have H0 := hide h0
    clear hm h0 hk0
    go_wp2_with fail
    refine (rfnew_any w1 lo hi hlh h1024).mono ?_
    rintro e w2 ⟨y, g, rfl, hr, hk2, r1, r2, r3⟩
    have H2 : Hid (FTwo W w2 (fun _ => False) p y g (Fr.new lo hi) (Fr.new lo hi)) := FTwo.made (unhide H0) hr hk2 r1 r2 r3
    clear H0 hr hk2 r1 r2 r3
    go_wp2_with fail
    go_loopw [8, 12] (fun pf i wr => ∃ (k f : Nat) (A : Fr), k ≤ n ∧ k ≤ 150 ∧ pf = .pointer (some ⟨f, 0, none⟩) ∧ i = .int .i64 k ∧ FTwo W wr (fun _ => False) f y g A A ∧ Of lo hi A) (fun _ i _ => n - (intOf i).toNat)
    case atStart => exact ⟨0, p, _, by omega, by omega, rfl, rfl, unhide H2, ⟨rfl, rfl⟩⟩
    case round =>
      clear H2
      obtain ⟨k, f, A, hk, hk150, rfl, rfl, hA, of⟩ := hrel
      have HA := hide hA
      clear hA
      by_cases hlt : k < n ∧ k < 150
      · obtain ⟨hlt, hl8⟩ := hlt
        obtain ⟨x, off, rfl, hx⟩ : ∃ b off, a = some ⟨b, off, none⟩ ∧ ∀ i, i < n → FOpAt W b (off + i * 2) (o i) := by
          rcases unhide HO with h | h
          · omega
          · exact h
        obtain ⟨u1, u2, u3, u4⟩ := hx k hlt
        generalize o k = o1 at u1 u2 u3 u4
        have HQ : Hid (wr.rangeAt x (off + k * 2) (opv o1).toList) := opv_range (FKeeps.cellOf (unhide HA).has.keeps u1 id) (FKeeps.cellOf (unhide HA).has.keeps u2 id)
        have LIN := hide u4
        have KIN := hide u3
        clear u1 u2 u3 u4 hx
        have s2 : (Try.prog.info? 60).map (·.size) = some (opv o1).toList.length := by rw [Array.length_toList, opv_size]; exact fopsize
        have hst := store_opv o1
        have hsz := opv_size o1
        have hlt' : (k : Int) < (n : Int) := by omega
        have hl8' : (k : Int) < 150 := by omega
        go_upto_region 12 with (refine wpList_load_mid rfl 60 _ rfl x (off + k * 2) rfl _ _ (unhide HQ) Try.underlying60 rfl s2 ?_)
        clear hst hsz s2
        have OB := hide (heap_new wr (.cells (opv o1) 60))
        have HV0 := hide ((unhide HA).alloc (.cells (opv o1) 60))
        obtain ⟨L, hL⟩ : ∃ L, L = wr.heap.size := ⟨_, rfl⟩
        rw [← hL] at OB HV0 ⊢
        have HV : Hid (FTwo W (wr.alloc (.cells (opv o1) 60)) (fun k => k = L) f y g A A) := (unhide HV0).less fun _ h => Or.inr h
        clear hL HA HQ HV0
        generalize wr.alloc (.cells (opv o1) 60) = V0 at *
        have OKA := hide (unhide HV).has.ok
        have c0 : V0.cell? ⟨L, 0, none⟩ = some (.int .i64 o1.kind) := by rw [cell_of_block (unhide OB)]; rfl
        have c1 : V0.cell? ⟨L, 1, none⟩ = some (.int .i64 o1.line) := by rw [cell_of_block (unhide OB)]; rfl
        obtain ⟨kd, hkd⟩ : ∃ kd, kd = fkN o1.kind 8 := ⟨_, rfl⟩
        have hkd8 : kd < 8 := by rw [hkd]; exact fkN_lt _ _ (by decide)
        have CK : Hid (Calls Try.prog 27 #[.int .i64 o1.kind, .int .i64 8] V0 fun e w' => e = .returned (.int .i64 (kd : Int)) ∧ w' = V0) := by rw [hkd]; exact fkind_any o1.kind (unhide KIN) 8 (by decide) (by decide) _
        clear hkd KIN
        rcases (show kd = 0 ∨ kd = 1 ∨ kd = 2 ∨ kd = 3 ∨ kd = 4 ∨ kd = 5 ∨ kd = 6 ∨ kd = 7 by omega) with rfl | rfl | rfl | rfl | rfl | rfl | rfl | rfl
        all_goals
          go_wp2_with fail
          refine (unhide CK).mono ?_
          rintro e V0 ⟨rfl, rfl⟩
          clear c0 CK hkd8
          go_wp2_with fail
          clear c1
        · skip
          refine ((unhide HV).has.allocate).mono ?_
          intro e V2 hh
          obtain ⟨rfl, h2, hs2⟩ := (unhide HV).fcall hh
          have H2 := hide h2
          have OB2 : Hid (V2.heap[L]? = some (.cells (opv o1) 60 (0, 0))) := (hs2 L rfl).trans (unhide OB)
          have c1 : V2.cell? ⟨L, 1, none⟩ = some (.int .i64 o1.line) := by rw [cell_of_block (unhide OB2)]; rfl
          clear hh h2 hs2 HV OB
          go_wp2_with fail
          refine (rfalloc_any (unhide H2).rep (unhide OKA)).mono ?_
          intro e V hh
          obtain ⟨rfl, h1, hs1⟩ := (unhide H2).ycall hh
          have H1 := hide h1
          have OB1 : Hid (V.heap[L]? = some (.cells (opv o1) 60 (0, 0))) := (hs1 L rfl).trans (unhide OB2)
          clear c1
          have c1 : V.cell? ⟨L, 1, none⟩ = some (.int .i64 o1.line) := by rw [cell_of_block (unhide OB1)]; rfl
          clear hh h1 hs1 H2 OB2 OB1
          have of1 := of.alloc
          generalize A.allocA = A1 at H1 of1
          generalize A.allocV = av
          generalize A.allocE = ae
          have QL : Hid (∀ q, Calls Try.prog 39 #[.pointer (some ⟨f, 0, none⟩)] (V.drewN q) fun e w' => e = .returned (.int .i64 (A1.left : Int)) ∧ w' = V.drewN q) := fun q => ((unhide H1).drewN q).has.left
          have QRL : Hid (∀ q, Calls Try.prog 40 #[.pointer (some ⟨y, 0, none⟩)] (V.drewN q) fun e w' => e = .returned (.int .i64 (A1.left : Int)) ∧ w' = V.drewN q) := fun q => rfleft_any ((unhide H1).drewN q).rep (unhide H1).has.ok
          have QS : Hid (∀ q, Calls Try.prog 41 #[.pointer (some ⟨f, 0, none⟩), .int .i64 o1.line] (V.drewN q) fun e w' => e = .returned (.int .i64 (A1.st o1.line)) ∧ w' = V.drewN q) := fun q => ((unhide H1).drewN q).has.state o1.line
          have QRS : Hid (∀ q, Calls Try.prog 42 #[.pointer (some ⟨y, 0, none⟩), .int .i64 o1.line] (V.drewN q) fun e w' => e = .returned (.int .i64 (A1.st o1.line)) ∧ ∃ m, w' = (V.drewN q).drewN m) := fun q => rfstate_any ((unhide H1).drewN q).rep (unhide H1).has.ok o1.line (unhide LIN)
          generalize (A1.left : Int) = lf at QL QRL
          generalize A1.st o1.line = sv at QS QRS
          go_wp2_with fail
          go_quiet ((first | (go_at_call 39; exact Calls.quiet_of_same (unhide QL _)) | (go_at_call 40; exact Calls.quiet_of_same (unhide QRL _)) | (go_at_call 41; exact Calls.quiet_of_same (unhide QS _)) | (go_at_call 42; exact Calls.quiet_of (unhide QRS _))))
          clear QL QRL QS QRS
          go_wp2_with fail
          go_roundw
          case rel => exact ⟨k + 1, f, A1, by omega, by omega, rfl, by go_num, ((unhide H1).less fun _ h => h.elim).drewN _, of1⟩
          case measure => simp [intOf]; omega
        · skip
          refine ((unhide HV).has.allocate).mono ?_
          intro e V2 hh
          obtain ⟨rfl, h2, hs2⟩ := (unhide HV).fcall hh
          have H2 := hide h2
          have OB2 : Hid (V2.heap[L]? = some (.cells (opv o1) 60 (0, 0))) := (hs2 L rfl).trans (unhide OB)
          have c1 : V2.cell? ⟨L, 1, none⟩ = some (.int .i64 o1.line) := by rw [cell_of_block (unhide OB2)]; rfl
          clear hh h2 hs2 HV OB
          go_wp2_with fail
          refine (rfalloc_any (unhide H2).rep (unhide OKA)).mono ?_
          intro e V hh
          obtain ⟨rfl, h1, hs1⟩ := (unhide H2).ycall hh
          have H1 := hide h1
          have OB1 : Hid (V.heap[L]? = some (.cells (opv o1) 60 (0, 0))) := (hs1 L rfl).trans (unhide OB2)
          clear c1
          have c1 : V.cell? ⟨L, 1, none⟩ = some (.int .i64 o1.line) := by rw [cell_of_block (unhide OB1)]; rfl
          clear hh h1 hs1 H2 OB2 OB1
          have of1 := of.alloc
          generalize A.allocA = A1 at H1 of1
          generalize A.allocV = av
          generalize A.allocE = ae
          have QL : Hid (∀ q, Calls Try.prog 39 #[.pointer (some ⟨f, 0, none⟩)] (V.drewN q) fun e w' => e = .returned (.int .i64 (A1.left : Int)) ∧ w' = V.drewN q) := fun q => ((unhide H1).drewN q).has.left
          have QRL : Hid (∀ q, Calls Try.prog 40 #[.pointer (some ⟨y, 0, none⟩)] (V.drewN q) fun e w' => e = .returned (.int .i64 (A1.left : Int)) ∧ w' = V.drewN q) := fun q => rfleft_any ((unhide H1).drewN q).rep (unhide H1).has.ok
          have QS : Hid (∀ q, Calls Try.prog 41 #[.pointer (some ⟨f, 0, none⟩), .int .i64 o1.line] (V.drewN q) fun e w' => e = .returned (.int .i64 (A1.st o1.line)) ∧ w' = V.drewN q) := fun q => ((unhide H1).drewN q).has.state o1.line
          have QRS : Hid (∀ q, Calls Try.prog 42 #[.pointer (some ⟨y, 0, none⟩), .int .i64 o1.line] (V.drewN q) fun e w' => e = .returned (.int .i64 (A1.st o1.line)) ∧ ∃ m, w' = (V.drewN q).drewN m) := fun q => rfstate_any ((unhide H1).drewN q).rep (unhide H1).has.ok o1.line (unhide LIN)
          generalize (A1.left : Int) = lf at QL QRL
          generalize A1.st o1.line = sv at QS QRS
          go_wp2_with fail
          go_quiet ((first | (go_at_call 39; exact Calls.quiet_of_same (unhide QL _)) | (go_at_call 40; exact Calls.quiet_of_same (unhide QRL _)) | (go_at_call 41; exact Calls.quiet_of_same (unhide QS _)) | (go_at_call 42; exact Calls.quiet_of (unhide QRS _))))
          clear QL QRL QS QRS
          go_wp2_with fail
          go_roundw
          case rel => exact ⟨k + 1, f, A1, by omega, by omega, rfl, by go_num, ((unhide H1).less fun _ h => h.elim).drewN _, of1⟩
          case measure => simp [intOf]; omega
        · skip
          refine ((unhide HV).has.allocate).mono ?_
          intro e V2 hh
          obtain ⟨rfl, h2, hs2⟩ := (unhide HV).fcall hh
          have H2 := hide h2
          have OB2 : Hid (V2.heap[L]? = some (.cells (opv o1) 60 (0, 0))) := (hs2 L rfl).trans (unhide OB)
          have c1 : V2.cell? ⟨L, 1, none⟩ = some (.int .i64 o1.line) := by rw [cell_of_block (unhide OB2)]; rfl
          clear hh h2 hs2 HV OB
          go_wp2_with fail
          refine (rfalloc_any (unhide H2).rep (unhide OKA)).mono ?_
          intro e V hh
          obtain ⟨rfl, h1, hs1⟩ := (unhide H2).ycall hh
          have H1 := hide h1
          have OB1 : Hid (V.heap[L]? = some (.cells (opv o1) 60 (0, 0))) := (hs1 L rfl).trans (unhide OB2)
          clear c1
          have c1 : V.cell? ⟨L, 1, none⟩ = some (.int .i64 o1.line) := by rw [cell_of_block (unhide OB1)]; rfl
          clear hh h1 hs1 H2 OB2 OB1
          have of1 := of.alloc
          generalize A.allocA = A1 at H1 of1
          generalize A.allocV = av
          generalize A.allocE = ae
          have QL : Hid (∀ q, Calls Try.prog 39 #[.pointer (some ⟨f, 0, none⟩)] (V.drewN q) fun e w' => e = .returned (.int .i64 (A1.left : Int)) ∧ w' = V.drewN q) := fun q => ((unhide H1).drewN q).has.left
          have QRL : Hid (∀ q, Calls Try.prog 40 #[.pointer (some ⟨y, 0, none⟩)] (V.drewN q) fun e w' => e = .returned (.int .i64 (A1.left : Int)) ∧ w' = V.drewN q) := fun q => rfleft_any ((unhide H1).drewN q).rep (unhide H1).has.ok
          have QS : Hid (∀ q, Calls Try.prog 41 #[.pointer (some ⟨f, 0, none⟩), .int .i64 o1.line] (V.drewN q) fun e w' => e = .returned (.int .i64 (A1.st o1.line)) ∧ w' = V.drewN q) := fun q => ((unhide H1).drewN q).has.state o1.line
          have QRS : Hid (∀ q, Calls Try.prog 42 #[.pointer (some ⟨y, 0, none⟩), .int .i64 o1.line] (V.drewN q) fun e w' => e = .returned (.int .i64 (A1.st o1.line)) ∧ ∃ m, w' = (V.drewN q).drewN m) := fun q => rfstate_any ((unhide H1).drewN q).rep (unhide H1).has.ok o1.line (unhide LIN)
          generalize (A1.left : Int) = lf at QL QRL
          generalize A1.st o1.line = sv at QS QRS
          go_wp2_with fail
          go_quiet ((first | (go_at_call 39; exact Calls.quiet_of_same (unhide QL _)) | (go_at_call 40; exact Calls.quiet_of_same (unhide QRL _)) | (go_at_call 41; exact Calls.quiet_of_same (unhide QS _)) | (go_at_call 42; exact Calls.quiet_of (unhide QRS _))))
          clear QL QRL QS QRS
          go_wp2_with fail
          go_roundw
          case rel => exact ⟨k + 1, f, A1, by omega, by omega, rfl, by go_num, ((unhide H1).less fun _ h => h.elim).drewN _, of1⟩
          case measure => simp [intOf]; omega
        · skip
          refine ((unhide HV).has.take o1.line).mono ?_
          intro e V2 hh
          obtain ⟨rfl, h2, hs2⟩ := (unhide HV).fcall hh
          have H2 := hide h2
          have OB2 : Hid (V2.heap[L]? = some (.cells (opv o1) 60 (0, 0))) := (hs2 L rfl).trans (unhide OB)
          have c1 : V2.cell? ⟨L, 1, none⟩ = some (.int .i64 o1.line) := by rw [cell_of_block (unhide OB2)]; rfl
          clear hh h2 hs2 HV OB
          go_wp2_with fail
          refine (rftake_any (unhide H2).rep (unhide OKA) o1.line (unhide LIN)).mono ?_
          intro e V hh
          obtain ⟨rfl, h1, hs1⟩ := (unhide H2).ycall hh
          have H1 := hide h1
          have OB1 : Hid (V.heap[L]? = some (.cells (opv o1) 60 (0, 0))) := (hs1 L rfl).trans (unhide OB2)
          clear c1
          have c1 : V.cell? ⟨L, 1, none⟩ = some (.int .i64 o1.line) := by rw [cell_of_block (unhide OB1)]; rfl
          clear hh h1 hs1 H2 OB2 OB1
          have of1 := of.turn o1.line 0 1
          generalize A.turnA o1.line 0 1 = A1 at H1 of1
          generalize A.turnE o1.line 0 = ae
          have QL : Hid (∀ q, Calls Try.prog 39 #[.pointer (some ⟨f, 0, none⟩)] (V.drewN q) fun e w' => e = .returned (.int .i64 (A1.left : Int)) ∧ w' = V.drewN q) := fun q => ((unhide H1).drewN q).has.left
          have QRL : Hid (∀ q, Calls Try.prog 40 #[.pointer (some ⟨y, 0, none⟩)] (V.drewN q) fun e w' => e = .returned (.int .i64 (A1.left : Int)) ∧ w' = V.drewN q) := fun q => rfleft_any ((unhide H1).drewN q).rep (unhide H1).has.ok
          have QS : Hid (∀ q, Calls Try.prog 41 #[.pointer (some ⟨f, 0, none⟩), .int .i64 o1.line] (V.drewN q) fun e w' => e = .returned (.int .i64 (A1.st o1.line)) ∧ w' = V.drewN q) := fun q => ((unhide H1).drewN q).has.state o1.line
          have QRS : Hid (∀ q, Calls Try.prog 42 #[.pointer (some ⟨y, 0, none⟩), .int .i64 o1.line] (V.drewN q) fun e w' => e = .returned (.int .i64 (A1.st o1.line)) ∧ ∃ m, w' = (V.drewN q).drewN m) := fun q => rfstate_any ((unhide H1).drewN q).rep (unhide H1).has.ok o1.line (unhide LIN)
          generalize (A1.left : Int) = lf at QL QRL
          generalize A1.st o1.line = sv at QS QRS
          go_wp2_with fail
          go_quiet ((first | (go_at_call 39; exact Calls.quiet_of_same (unhide QL _)) | (go_at_call 40; exact Calls.quiet_of_same (unhide QRL _)) | (go_at_call 41; exact Calls.quiet_of_same (unhide QS _)) | (go_at_call 42; exact Calls.quiet_of (unhide QRS _))))
          clear QL QRL QS QRS
          go_wp2_with fail
          go_roundw
          case rel => exact ⟨k + 1, f, A1, by omega, by omega, rfl, by go_num, ((unhide H1).less fun _ h => h.elim).drewN _, of1⟩
          case measure => simp [intOf]; omega
        · skip
          refine ((unhide HV).has.free o1.line).mono ?_
          intro e V2 hh
          obtain ⟨rfl, h2, hs2⟩ := (unhide HV).fcall hh
          have H2 := hide h2
          have OB2 : Hid (V2.heap[L]? = some (.cells (opv o1) 60 (0, 0))) := (hs2 L rfl).trans (unhide OB)
          have c1 : V2.cell? ⟨L, 1, none⟩ = some (.int .i64 o1.line) := by rw [cell_of_block (unhide OB2)]; rfl
          clear hh h2 hs2 HV OB
          go_wp2_with fail
          refine (rffree_any (unhide H2).rep (unhide OKA) o1.line (unhide LIN)).mono ?_
          intro e V hh
          obtain ⟨rfl, h1, hs1⟩ := (unhide H2).ycall hh
          have H1 := hide h1
          have OB1 : Hid (V.heap[L]? = some (.cells (opv o1) 60 (0, 0))) := (hs1 L rfl).trans (unhide OB2)
          clear c1
          have c1 : V.cell? ⟨L, 1, none⟩ = some (.int .i64 o1.line) := by rw [cell_of_block (unhide OB1)]; rfl
          clear hh h1 hs1 H2 OB2 OB1
          have of1 := of.turn o1.line 1 0
          generalize A.turnA o1.line 1 0 = A1 at H1 of1
          generalize A.turnE o1.line 1 = ae
          have QL : Hid (∀ q, Calls Try.prog 39 #[.pointer (some ⟨f, 0, none⟩)] (V.drewN q) fun e w' => e = .returned (.int .i64 (A1.left : Int)) ∧ w' = V.drewN q) := fun q => ((unhide H1).drewN q).has.left
          have QRL : Hid (∀ q, Calls Try.prog 40 #[.pointer (some ⟨y, 0, none⟩)] (V.drewN q) fun e w' => e = .returned (.int .i64 (A1.left : Int)) ∧ w' = V.drewN q) := fun q => rfleft_any ((unhide H1).drewN q).rep (unhide H1).has.ok
          have QS : Hid (∀ q, Calls Try.prog 41 #[.pointer (some ⟨f, 0, none⟩), .int .i64 o1.line] (V.drewN q) fun e w' => e = .returned (.int .i64 (A1.st o1.line)) ∧ w' = V.drewN q) := fun q => ((unhide H1).drewN q).has.state o1.line
          have QRS : Hid (∀ q, Calls Try.prog 42 #[.pointer (some ⟨y, 0, none⟩), .int .i64 o1.line] (V.drewN q) fun e w' => e = .returned (.int .i64 (A1.st o1.line)) ∧ ∃ m, w' = (V.drewN q).drewN m) := fun q => rfstate_any ((unhide H1).drewN q).rep (unhide H1).has.ok o1.line (unhide LIN)
          generalize (A1.left : Int) = lf at QL QRL
          generalize A1.st o1.line = sv at QS QRS
          go_wp2_with fail
          go_quiet ((first | (go_at_call 39; exact Calls.quiet_of_same (unhide QL _)) | (go_at_call 40; exact Calls.quiet_of_same (unhide QRL _)) | (go_at_call 41; exact Calls.quiet_of_same (unhide QS _)) | (go_at_call 42; exact Calls.quiet_of (unhide QRS _))))
          clear QL QRL QS QRS
          go_wp2_with fail
          go_roundw
          case rel => exact ⟨k + 1, f, A1, by omega, by omega, rfl, by go_num, ((unhide H1).less fun _ h => h.elim).drewN _, of1⟩
          case measure => simp [intOf]; omega
        · skip
          refine ((unhide HV).has.later o1.line).mono ?_
          intro e V2 hh
          obtain ⟨rfl, h2, hs2⟩ := (unhide HV).fcall hh
          have H2 := hide h2
          have OB2 : Hid (V2.heap[L]? = some (.cells (opv o1) 60 (0, 0))) := (hs2 L rfl).trans (unhide OB)
          have c1 : V2.cell? ⟨L, 1, none⟩ = some (.int .i64 o1.line) := by rw [cell_of_block (unhide OB2)]; rfl
          clear hh h2 hs2 HV OB
          go_wp2_with fail
          refine (rflater_any (unhide H2).rep (unhide OKA) o1.line (unhide LIN)).mono ?_
          intro e V hh
          obtain ⟨rfl, h1, hs1⟩ := (unhide H2).ycall hh
          have H1 := hide h1
          have OB1 : Hid (V.heap[L]? = some (.cells (opv o1) 60 (0, 0))) := (hs1 L rfl).trans (unhide OB2)
          clear c1
          have c1 : V.cell? ⟨L, 1, none⟩ = some (.int .i64 o1.line) := by rw [cell_of_block (unhide OB1)]; rfl
          clear hh h1 hs1 H2 OB2 OB1
          have of1 := of.turn o1.line 1 2
          generalize A.turnA o1.line 1 2 = A1 at H1 of1
          generalize A.turnE o1.line 1 = ae
          have QL : Hid (∀ q, Calls Try.prog 39 #[.pointer (some ⟨f, 0, none⟩)] (V.drewN q) fun e w' => e = .returned (.int .i64 (A1.left : Int)) ∧ w' = V.drewN q) := fun q => ((unhide H1).drewN q).has.left
          have QRL : Hid (∀ q, Calls Try.prog 40 #[.pointer (some ⟨y, 0, none⟩)] (V.drewN q) fun e w' => e = .returned (.int .i64 (A1.left : Int)) ∧ w' = V.drewN q) := fun q => rfleft_any ((unhide H1).drewN q).rep (unhide H1).has.ok
          have QS : Hid (∀ q, Calls Try.prog 41 #[.pointer (some ⟨f, 0, none⟩), .int .i64 o1.line] (V.drewN q) fun e w' => e = .returned (.int .i64 (A1.st o1.line)) ∧ w' = V.drewN q) := fun q => ((unhide H1).drewN q).has.state o1.line
          have QRS : Hid (∀ q, Calls Try.prog 42 #[.pointer (some ⟨y, 0, none⟩), .int .i64 o1.line] (V.drewN q) fun e w' => e = .returned (.int .i64 (A1.st o1.line)) ∧ ∃ m, w' = (V.drewN q).drewN m) := fun q => rfstate_any ((unhide H1).drewN q).rep (unhide H1).has.ok o1.line (unhide LIN)
          generalize (A1.left : Int) = lf at QL QRL
          generalize A1.st o1.line = sv at QS QRS
          go_wp2_with fail
          go_quiet ((first | (go_at_call 39; exact Calls.quiet_of_same (unhide QL _)) | (go_at_call 40; exact Calls.quiet_of_same (unhide QRL _)) | (go_at_call 41; exact Calls.quiet_of_same (unhide QS _)) | (go_at_call 42; exact Calls.quiet_of (unhide QRS _))))
          clear QL QRL QS QRS
          go_wp2_with fail
          go_roundw
          case rel => exact ⟨k + 1, f, A1, by omega, by omega, rfl, by go_num, ((unhide H1).less fun _ h => h.elim).drewN _, of1⟩
          case measure => simp [intOf]; omega
        · skip
          refine ((unhide HV).has.settle).mono ?_
          intro e V2 hh
          obtain ⟨rfl, h2, hs2⟩ := (unhide HV).fcall hh
          have H2 := hide h2
          have OB2 : Hid (V2.heap[L]? = some (.cells (opv o1) 60 (0, 0))) := (hs2 L rfl).trans (unhide OB)
          have c1 : V2.cell? ⟨L, 1, none⟩ = some (.int .i64 o1.line) := by rw [cell_of_block (unhide OB2)]; rfl
          clear hh h2 hs2 HV OB
          go_wp2_with fail
          refine (rfsettle_any (unhide H2).rep (unhide OKA)).mono ?_
          intro e V hh
          obtain ⟨rfl, h1, hs1⟩ := (unhide H2).ycall hh
          have H1 := hide h1
          have OB1 : Hid (V.heap[L]? = some (.cells (opv o1) 60 (0, 0))) := (hs1 L rfl).trans (unhide OB2)
          clear c1
          have c1 : V.cell? ⟨L, 1, none⟩ = some (.int .i64 o1.line) := by rw [cell_of_block (unhide OB1)]; rfl
          clear hh h1 hs1 H2 OB2 OB1
          have of1 := of.settle
          generalize A.settle = A1 at H1 of1
          have QL : Hid (∀ q, Calls Try.prog 39 #[.pointer (some ⟨f, 0, none⟩)] (V.drewN q) fun e w' => e = .returned (.int .i64 (A1.left : Int)) ∧ w' = V.drewN q) := fun q => ((unhide H1).drewN q).has.left
          have QRL : Hid (∀ q, Calls Try.prog 40 #[.pointer (some ⟨y, 0, none⟩)] (V.drewN q) fun e w' => e = .returned (.int .i64 (A1.left : Int)) ∧ w' = V.drewN q) := fun q => rfleft_any ((unhide H1).drewN q).rep (unhide H1).has.ok
          have QS : Hid (∀ q, Calls Try.prog 41 #[.pointer (some ⟨f, 0, none⟩), .int .i64 o1.line] (V.drewN q) fun e w' => e = .returned (.int .i64 (A1.st o1.line)) ∧ w' = V.drewN q) := fun q => ((unhide H1).drewN q).has.state o1.line
          have QRS : Hid (∀ q, Calls Try.prog 42 #[.pointer (some ⟨y, 0, none⟩), .int .i64 o1.line] (V.drewN q) fun e w' => e = .returned (.int .i64 (A1.st o1.line)) ∧ ∃ m, w' = (V.drewN q).drewN m) := fun q => rfstate_any ((unhide H1).drewN q).rep (unhide H1).has.ok o1.line (unhide LIN)
          generalize (A1.left : Int) = lf at QL QRL
          generalize A1.st o1.line = sv at QS QRS
          go_wp2_with fail
          go_quiet ((first | (go_at_call 39; exact Calls.quiet_of_same (unhide QL _)) | (go_at_call 40; exact Calls.quiet_of_same (unhide QRL _)) | (go_at_call 41; exact Calls.quiet_of_same (unhide QS _)) | (go_at_call 42; exact Calls.quiet_of (unhide QRS _))))
          clear QL QRL QS QRS
          go_wp2_with fail
          go_roundw
          case rel => exact ⟨k + 1, f, A1, by omega, by omega, rfl, by go_num, ((unhide H1).less fun _ h => h.elim).drewN _, of1⟩
          case measure => simp [intOf]; omega
        · skip
          refine ((unhide HV).clone).mono ?_
          rintro e V2 ⟨f2, rfl, h2, hs2, hback⟩
          have H2 := hide h2
          have OB2 : Hid (V2.heap[L]? = some (.cells (opv o1) 60 (0, 0))) := (hs2 L rfl).trans (unhide OB)
          have BK := hide hback
          clear h2 hs2 HV OB hback
          go_wp2_with fail
          refine ((unhide H2).allocate).mono ?_
          rintro e V3 ⟨rfl, h3, hs3⟩
          have H3 := hide h3
          have S3 := hide hs3
          clear h3 hs3
          generalize A.allocV = av
          generalize A.allocE = ae
          go_wp2_with fail
          refine ((unhide H3).allocate).mono ?_
          rintro e V4 ⟨rfl, h4, hs4⟩
          have H4 := hide h4
          have S4 := hide hs4
          clear h4 hs4
          generalize A.allocA.allocV = av2
          generalize A.allocA.allocE = ae2
          go_wp2_with fail
          refine ((unhide H4).settle).mono ?_
          rintro e V ⟨rfl, h5, hs5⟩
          have HSAME : Hid (FSame (fun k => k = L ∨ k = y ∨ k = g ∨ k = f2) V2 V) := fun k hk => (hs5 k hk).trans ((unhide S4 k hk).trans (unhide S3 k hk))
          have H1 : Hid (FTwo W V (fun k => k = L) f2 y g A A) := unhide BK V _ h5 (unhide HSAME)
          have OB1 : Hid (V.heap[L]? = some (.cells (opv o1) 60 (0, 0))) := (unhide HSAME L (Or.inl rfl)).trans (unhide OB2)
          have c1 : V.cell? ⟨L, 1, none⟩ = some (.int .i64 o1.line) := by rw [cell_of_block (unhide OB1)]; rfl
          clear h5 hs5 H2 H3 H4 S3 S4 BK OB2 OB1 HSAME
          have of1 := of
          generalize A = A1 at H1 of1
          generalize f2 = f at H1 ⊢
          have QL : Hid (∀ q, Calls Try.prog 39 #[.pointer (some ⟨f, 0, none⟩)] (V.drewN q) fun e w' => e = .returned (.int .i64 (A1.left : Int)) ∧ w' = V.drewN q) := fun q => ((unhide H1).drewN q).has.left
          have QRL : Hid (∀ q, Calls Try.prog 40 #[.pointer (some ⟨y, 0, none⟩)] (V.drewN q) fun e w' => e = .returned (.int .i64 (A1.left : Int)) ∧ w' = V.drewN q) := fun q => rfleft_any ((unhide H1).drewN q).rep (unhide H1).has.ok
          have QS : Hid (∀ q, Calls Try.prog 41 #[.pointer (some ⟨f, 0, none⟩), .int .i64 o1.line] (V.drewN q) fun e w' => e = .returned (.int .i64 (A1.st o1.line)) ∧ w' = V.drewN q) := fun q => ((unhide H1).drewN q).has.state o1.line
          have QRS : Hid (∀ q, Calls Try.prog 42 #[.pointer (some ⟨y, 0, none⟩), .int .i64 o1.line] (V.drewN q) fun e w' => e = .returned (.int .i64 (A1.st o1.line)) ∧ ∃ m, w' = (V.drewN q).drewN m) := fun q => rfstate_any ((unhide H1).drewN q).rep (unhide H1).has.ok o1.line (unhide LIN)
          generalize (A1.left : Int) = lf at QL QRL
          generalize A1.st o1.line = sv at QS QRS
          go_wp2_with fail
          go_quiet ((first | (go_at_call 39; exact Calls.quiet_of_same (unhide QL _)) | (go_at_call 40; exact Calls.quiet_of_same (unhide QRL _)) | (go_at_call 41; exact Calls.quiet_of_same (unhide QS _)) | (go_at_call 42; exact Calls.quiet_of (unhide QRS _))))
          clear QL QRL QS QRS
          go_wp2_with fail
          go_roundw
          case rel => exact ⟨k + 1, f, A1, by omega, by omega, rfl, by go_num, ((unhide H1).less fun _ h => h.elim).drewN _, of1⟩
          case measure => simp [intOf]; omega
      · have hor : ¬ ((k : Int) < (n : Int)) ∨ ((k : Int) < (n : Int) ∧ ¬ ((k : Int) < 150)) := by omega
        clear hlt hk hk150
        generalize (k : Int) = ki at hor ⊢
        rcases hor with h1 | ⟨h1, h2⟩
        · skip
          go_wp2_with fail
          obtain ⟨m, hm⟩ : ∃ m, m = hi - lo := ⟨_, rfl⟩
          have HM : Hid (lo + m = hi) := by show _ = _; omega
          have m1024 : m ≤ 1024 := by omega
          clear hm
          go_loopw [19] (fun i wv => ∃ j : Nat, j ≤ m ∧ i = .int .i64 j ∧ FTwo W wv (fun _ => False) f y g A A) (fun i _ => m - (intOf i).toNat)
          case atStart => exact ⟨0, by omega, rfl, unhide HA⟩
          case round =>
            clear HA
            obtain ⟨j, hj, rfl, hA⟩ := hrel
            have HA := hide hA
            clear hA
            have d1 := (unhide HA).rep.c1
            rw [show A.hi - A.lo = m by rw [of.lo, of.hi]; have := unhide HM; omega] at d1
            by_cases hlt : j < m
            · have hjm : (j : Int) < (m : Int) := by omega
              have d2 := (unhide HA).rep.bl.cell j (by rw [of.lo, of.hi]; have := unhide HM; omega)
              have est : A.st ((lo : Int) + (j : Int)) = A.s (A.lo + j) := by
                rw [show (lo : Int) + (j : Int) = ((lo + j : Nat) : Int) from rfl, st_nat, if_pos ⟨by rw [of.lo]; omega, by rw [of.hi]; have := unhide HM; omega⟩, of.lo]
              have QS : Hid (∀ q, Calls Try.prog 41 #[.pointer (some ⟨f, 0, none⟩), .int .i64 ((lo : Int) + (j : Int))] (wr.drewN q) fun e w' => e = .returned (.int .i64 (A.st ((lo : Int) + (j : Int)))) ∧ w' = wr.drewN q) := fun q => ((unhide HA).drewN q).has.state _
              rw [est] at QS
              clear est
              generalize A.s (A.lo + j) = sv at d2 QS
              go_wp2_with fail
              go_quiet ((go_at_call 41; exact Calls.quiet_of_same (unhide QS _)))
              go_wp2_with fail
              go_roundw
              case rel => exact ⟨j + 1, by omega, by go_num, (unhide HA).drewN _⟩
              case measure => simp [intOf]; omega
            · have hjm : ¬ ((j : Int) < (m : Int)) := by omega
              have e1 : A.st ((lo : Int) - 1) = -1 := if_neg fun q => by have := q.1; rw [of.lo] at this; omega
              have e2 : A.st (hi : Int) = -1 := if_neg fun q => by have := q.2; rw [of.hi] at this; omega
              have Q1 := hide ((unhide HA).has.state ((lo : Int) - 1))
              have Q2 := hide ((unhide HA).has.state (hi : Int))
              rw [e1] at Q1
              rw [e2] at Q2
              clear e1 e2
              go_wp2_with fail
              refine (unhide Q1).mono ?_
              rintro e wr ⟨rfl, rfl⟩
              go_wp2_with (go_at_call 41; refine (unhide Q2).mono ?_; rintro e wr ⟨rfl, rfl⟩)
              go_ret
              exact ⟨rfl, (unhide HA).has.keeps.below (Nat.le_refl _) (fun _ h => h.elim)⟩
        · skip
          go_wp2_with fail
          obtain ⟨m, hm⟩ : ∃ m, m = hi - lo := ⟨_, rfl⟩
          have HM : Hid (lo + m = hi) := by show _ = _; omega
          have m1024 : m ≤ 1024 := by omega
          clear hm
          go_loopw [19] (fun i wv => ∃ j : Nat, j ≤ m ∧ i = .int .i64 j ∧ FTwo W wv (fun _ => False) f y g A A) (fun i _ => m - (intOf i).toNat)
          case atStart => exact ⟨0, by omega, rfl, unhide HA⟩
          case round =>
            clear HA
            obtain ⟨j, hj, rfl, hA⟩ := hrel
            have HA := hide hA
            clear hA
            have d1 := (unhide HA).rep.c1
            rw [show A.hi - A.lo = m by rw [of.lo, of.hi]; have := unhide HM; omega] at d1
            by_cases hlt : j < m
            · have hjm : (j : Int) < (m : Int) := by omega
              have d2 := (unhide HA).rep.bl.cell j (by rw [of.lo, of.hi]; have := unhide HM; omega)
              have est : A.st ((lo : Int) + (j : Int)) = A.s (A.lo + j) := by
                rw [show (lo : Int) + (j : Int) = ((lo + j : Nat) : Int) from rfl, st_nat, if_pos ⟨by rw [of.lo]; omega, by rw [of.hi]; have := unhide HM; omega⟩, of.lo]
              have QS : Hid (∀ q, Calls Try.prog 41 #[.pointer (some ⟨f, 0, none⟩), .int .i64 ((lo : Int) + (j : Int))] (wr.drewN q) fun e w' => e = .returned (.int .i64 (A.st ((lo : Int) + (j : Int)))) ∧ w' = wr.drewN q) := fun q => ((unhide HA).drewN q).has.state _
              rw [est] at QS
              clear est
              generalize A.s (A.lo + j) = sv at d2 QS
              go_wp2_with fail
              go_quiet ((go_at_call 41; exact Calls.quiet_of_same (unhide QS _)))
              go_wp2_with fail
              go_roundw
              case rel => exact ⟨j + 1, by omega, by go_num, (unhide HA).drewN _⟩
              case measure => simp [intOf]; omega
            · have hjm : ¬ ((j : Int) < (m : Int)) := by omega
              have e1 : A.st ((lo : Int) - 1) = -1 := if_neg fun q => by have := q.1; rw [of.lo] at this; omega
              have e2 : A.st (hi : Int) = -1 := if_neg fun q => by have := q.2; rw [of.hi] at this; omega
              have Q1 := hide ((unhide HA).has.state ((lo : Int) - 1))
              have Q2 := hide ((unhide HA).has.state (hi : Int))
              rw [e1] at Q1
              rw [e2] at Q2
              clear e1 e2
              go_wp2_with fail
              refine (unhide Q1).mono ?_
              rintro e wr ⟨rfl, rfl⟩
              go_wp2_with (go_at_call 41; refine (unhide Q2).mono ?_; rintro e wr ⟨rfl, rfl⟩)
              go_ret
              exact ⟨rfl, (unhide HA).has.keeps.below (Nat.le_refl _) (fun _ h => h.elim)⟩

set_option maxRecDepth 100000 in
theorem lifted (os : Os) (started : os.Started) (H : Type) (enc : TypeId × Value → H) :
    ReturnsInHanded {} Try.checked os 4 .any (Rows.framesPlaySpec.pre6 enc Try.prog Try.f4 Rows.framesPlayRow.domain false) (Rows.framesPlaySpec.post enc Try.prog Try.f4 false true false false) := by
  refine law_frame (C := Try.checked) (ts := [3, 3, 52]) (tb := 4) (by kernel_rfl) started (by kernel_rfl) Try.func4 Try.params4 (by kernel_rfl) Try.underlying4 (by kernel_rfl) (by kernel_rfl) rfl ?_
    (ChangeSpec.witness6 (enc := enc) (C := Try.checked) false ⟨#[], #[.int .i64 0, .int .i64 0, .slice none 0 0], []⟩ 8 (by kernel_rfl) (by kernel_rfl) (by kernel_rfl) (by kernel_rfl)) ?_
  · intro ds hd
    match ds, hd with
    | [d0, d1, d2], _ => rfl
  · intro W base args ds p hval hA
    obtain ⟨v0, vs0, d0, ds0, p0, q0, hargs, rfl, rfl, h0, r0⟩ := trodAll_cons hA
    obtain ⟨v1, vs1, d1, ds1, p1, q1, rfl, rfl, rfl, h1, r1⟩ := trodAll_cons r0
    obtain ⟨v2, vs2, d2, ds2, p2, q2, rfl, rfl, rfl, h2, r2⟩ := trodAll_cons r1
    obtain ⟨rfl, rfl, rfl⟩ := trodAll_nil r2
    obtain rfl : args = #[v0, v1, v2] := by cases args; simp_all
    obtain ⟨x1, rfl, rfl, rfl, wx1⟩ := open_int Try.underlying3 (hval 0 3 v0 rfl rfl) h0
    obtain ⟨x2, rfl, rfl, rfl, wx2⟩ := open_int Try.underlying3 (hval 1 3 v1 rfl rfl) h1
    obtain ⟨a, n, cap, o, rfl, hO⟩ := open_fops (hval 2 52 v2 rfl rfl) h2
    exact walk W x1 x2 a n cap o wx1 wx2 hO

theorem over : Rows.framesPlayRow.holds Try.pinned (OpenSpec.ofChange Rows.framesPlaySpec) :=
  OpenClaim.holds_of_wide 4 Try.f4 rfl rfl rfl rfl rfl rfl rfl ⟨rfl, rfl, rfl, rfl, rfl⟩ rfl rfl rfl rfl rfl (by kernel_rfl) Try.func4 (by kernel_rfl)
    (of_decide_eq_true (by kernel_rfl)) (by unfold Func.isWrapper; first | (rw [if_pos (by decide +kernel)]; kernel_rfl) | (rw [if_neg (by decide +kernel)]; exact ⟨rfl, rfl⟩))
    (fun os started H enc _ => lifted os started H enc)

end Go.Proofs.Ytkoaajcfnnpiaaa.framesPlay
namespace Go.Proofs.Ytkoaajcfnnpiaaa
theorem framesPlay_holds : Rows.FramesPlaySaid := framesPlay.over
end Go.Proofs.Ytkoaajcfnnpiaaa
