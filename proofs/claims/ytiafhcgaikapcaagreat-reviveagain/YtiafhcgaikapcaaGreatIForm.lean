
/-
  revive's Format: any objects are made an image, or refused.
-/
import Derived.Test.YtiafhcgaikapcaaGreatIWrite
namespace Go.Proofs.YtiafhcgaikapcaaGreat
open Go.ChangeShapes Go.WideShapes Go.ChangeAt Go.RowKit Go.Joins
set_option maxRecDepth 10000
set_option linter.unusedVariables false
set_option linter.unusedSimpArgs false

theorem Done.of {W w w' : World} {St : Mm → World → (Nat → Prop) → Prop} {G : Nat → Prop} {L : List (Nat × Obj)} {B : Mm} {R : Mm × Int} {E : Int} (S : Stay W (St B)) (h : Held W (St B) w w' G L) (hR : R = (B, E)) : Done (St R.1) w G (.int .i64 R.2) (.returned (.int .i64 E)) w' := by
  subst hR
  exact ⟨rfl, S.ls _ _ _ h.1 (fun k hk => Or.inl hk), h.2.2⟩
set_option maxHeartbeats 8000000 in
theorem format_any {W w : World} {m : Nat} {St : Mm → World → (Nat → Prop) → Prop} {A : Mm} {G : Nat → Prop} (M : MemI W m St) (h : St A w G) (hA : A.ok 300) (c : Int) (a : Option Addr) (cap : Nat) (l : List Ob) (hl : l.length ≤ 1000) (hin : ∀ x ∈ l, ObIn x)
    (hob : ∀ w', Keeps (fun _ => False) W w' → Same G w w' → ObsAt w' a l) :
    Calls Tryz.prog 52 #[.pointer (some ⟨m, 0, none⟩), .int .i64 c, .slice a l.length cap] w (Done (St (fmtP A c l).1) w G (.int .i64 (fmtP A c l).2)) := by
  have HM := hide M
  have T0 := hide (M.stay A)
  have O0 := hide (Held.start (M.stay A) h)
  by_cases c1 : c < 1
  · have HR : Hid (fmtP A c l = (A, 1)) := if_neg fun q => by have := ((fmtB_iff _ _).1 q).1; omega
    clear h hA M hin hob hl
    go_enter Tryz.func52, Tryz.ntmps52
    go_wp2_with fail
    go_ret
    exact Done.of (unhide T0) (unhide O0) (unhide HR)
  by_cases c8 : 8 < c
  · have HR : Hid (fmtP A c l = (A, 1)) := if_neg fun q => by have := ((fmtB_iff _ _).1 q).1; omega
    clear h hA M hin hob hl
    go_enter Tryz.func52, Tryz.ntmps52
    go_wp2_with fail
    go_ret
    exact Done.of (unhide T0) (unhide O0) (unhide HR)
  have CM := hide (fun (w' : World) (L : List (Nat × Obj)) (h' : Held W (St A) w w' G L) => immay_any a cap l hl w' (hob w' ((M.stay A).sz _ _ h'.1) h'.2.2))
  cases hb : decide (l.length ≤ 49) && l.all obM with
  | false =>
    rw [hb] at CM
    have HR : Hid (fmtP A c l = (A, 1)) := if_neg fun q => by
      have := (fmtB_iff _ _).1 q
      have h2 : (decide (l.length ≤ 49) && l.all obM) = true := by rw [Bool.and_eq_true, decide_eq_true_iff, List.all_eq_true]; exact ⟨this.2.1, this.2.2⟩
      rw [hb] at h2; cases h2
    have q1 : ¬ c < 1 := c1
    have q2 : c ≤ 8 := by omega
    clear h hA M hin hob hl hb
    go_enter Tryz.func52, Tryz.ntmps52
    go_wp2_with fail
    refine (unhide CM _ _ (unhide O0)).mono ?_
    rintro e w1 ⟨rfl, hb⟩
    have O1 := hide ((unhide O0).below (unhide T0) hb)
    clear hb O0 CM
    go_wp2_with fail
    go_ret
    exact Done.of (unhide T0) (unhide O1) (unhide HR)
  | true =>
    rw [hb] at CM
    rw [Bool.and_eq_true, decide_eq_true_iff, List.all_eq_true] at hb
    obtain ⟨k, rfl⟩ : ∃ k : Nat, c = (k : Int) := ⟨c.toNat, by omega⟩
    have hk1 : 1 ≤ k := by omega
    have hk8 : k ≤ 8 := by omega
    have q1 : ¬ (k : Int) < 1 := by omega
    have q2 : (k : Int) ≤ 8 := by omega
    have HB : Hid (fmtB (k : Int) l = true) := (fmtB_iff _ _).2 ⟨⟨by omega, by omega⟩, hb⟩
    have HFP : Hid (fmtP A (k : Int) l = if A.n < fromN k + cntO l + 8 then (A, 10) else andP (andP (wpP A (fromN k)) fun B => wrtP B (fromN k) l) fun B => (B.writeZ 0 0 (supO (k : Int) (fromN k + cntO l)), B.writeE 0 0 (supO (k : Int) (fromN k + cntO l)))) := by
      show _ = _
      unfold fmtP
      rw [if_pos (unhide HB), Int.toNat_natCast]
      rfl
    have hc := cnt_le l
    have hfr : fromN k ≤ 34 := by unfold fromN; omega
    have HCL := hide (show fromN k ≤ 34 ∧ cntO l ≤ 49 by omega)
    have CF := hide (fun w' : World => from_any k hk8 w')
    have CN := hide (fun (w' : World) (G' : Nat → Prop) (h' : St A w' G') => M.lines w' G' A h')
    have CL := hide (fun (w' : World) (L : List (Nat × Obj)) (h' : Held W (St A) w w' G L) => imlines_any a cap l hl w' (hob w' ((M.stay A).sz _ _ h'.1) h'.2.2))
    have HN1 : Hid (A.n ≤ 1024) := hA.2.1
    by_cases hn : A.n < fromN k + cntO l + 8
    · have HR := hide ((unhide HFP).trans (if_pos hn))
      have hn2 : (A.n : Int) < (fromN k : Nat) + ((8 + cntO l : Nat) : Int) := by omega
      clear h hA M hin hob hl hb HB HFP hn hk1 hk8
      have hA1 : (A.n : Int) ≤ 1024 := by have := unhide HN1; omega
      have hf1 : ((fromN k : Nat) : Int) ≤ 34 := by omega
      have hf2 : ((8 + cntO l : Nat) : Int) ≤ 57 := by have := unhide HCL; omega
      clear hc hfr
      generalize fromN k = fr at *
      generalize 8 + cntO l = nl at *
      go_enter Tryz.func52, Tryz.ntmps52
      go_wp2_with fail
      refine (unhide CM _ _ (unhide O0)).mono ?_
      rintro e w1 ⟨rfl, hb⟩
      have O1 := hide ((unhide O0).below (unhide T0) hb)
      clear hb O0 CM
      go_wp2_with fail
      refine (unhide CF _).mono ?_
      rintro e w2 ⟨rfl, hw2⟩
      subst hw2
      go_wp2_with fail
      refine (unhide CN _ _ (unhide O1).st).mono ?_
      rintro e w2 ⟨rfl, hw2⟩
      subst hw2
      go_wp2_with fail
      refine (unhide CL _ _ (unhide O1)).mono ?_
      rintro e w2 ⟨rfl, hb⟩
      have O2 := hide ((unhide O1).below (unhide T0) hb)
      clear hb O1 CL
      go_wp2_with fail
      go_ret
      exact Done.of (unhide T0) (unhide O2) (unhide HR)
    · have HR := hide ((unhide HFP).trans (if_neg hn))
      have hn2 : ¬ (A.n : Int) < (fromN k : Nat) + ((8 + cntO l : Nat) : Int) := by omega
      have CW := hide (fun (w' : World) (G' : Nat → Prop) (h' : St A w' G') => wipe_any M h' (ok_mono hA (by omega)) (fromN k) hfr)
      have HO1 : Hid ((wpP A (fromN k)).1.ok 370) := andP_of (B := 369) (C := 1) (ok_mono (wipeP_ok hA _) (by omega)) fun D hD => ok_mono (feP_ok hD) (by omega)
      have HINU : Hid (∀ j i, InU ((l.getD j ob0).l i)) := fun j i => by
        by_cases q : j < l.length
        · exact (hin _ (getD_mem q)).2.2 i
        · rw [List.getD_eq_getElem?_getD, List.getElem?_eq_none (by omega)]; show InU 0; exact ⟨by decide, by decide⟩
      have CR := hide (fun (w' : World) (L : List (Nat × Obj)) (h' : Held W (St (wpP A (fromN k)).1) w w' G L) => write_any M h'.1 (unhide HO1) (fromN k) a cap l hb.1 hb.2 hin (by have := unhide HN1; omega) (fun w'' k1 s1 => hob w'' k1 (h'.2.2.trans fun i hi => s1 i (Or.inl hi))))
      have HO2 : Hid ((wrtP (wpP A (fromN k)).1 (fromN k) l).1.ok 900) := ok_mono (wrtP_ok (unhide HO1) _ _ (unhide HINU)) (by have := hb.1; omega)
      have HWE : Hid ((wpP A (fromN k)).2 = 0 → fmtP A (k : Int) l = andP (wrtP (wpP A (fromN k)).1 (fromN k) l) fun B => (B.writeZ 0 0 (supO (k : Int) (fromN k + cntO l)), B.writeE 0 0 (supO (k : Int) (fromN k + cntO l)))) := fun h0 => by rw [unhide HR, andP_ok h0]
      have HWN : Hid ((wpP A (fromN k)).2 ≠ 0 → fmtP A (k : Int) l = ((wpP A (fromN k)).1, (wpP A (fromN k)).2)) := fun h0 => by rw [unhide HR, andP_no h0]; exact andP_no h0
      clear h hA M hin hob hl hb HB HFP hn hk1 hk8 HR HINU
      have hA1 : (A.n : Int) ≤ 1024 := by have := unhide HN1; omega
      have hf1 : ((fromN k : Nat) : Int) ≤ 34 := by omega
      have hf2 : ((8 + cntO l : Nat) : Int) ≤ 57 := by have := unhide HCL; omega
      clear hc hfr
      generalize 8 + cntO l = nl at *
      obtain ⟨RR, hRR⟩ : ∃ RR, RR = fmtP A (k : Int) l := ⟨_, rfl⟩
      rw [← hRR] at HWE HWN ⊢
      clear hRR
      generalize hsp : supO (k : Int) (fromN k + cntO l) = SP at *
      have HSP : Hid (SP = [1, ((fromN k + cntO l + 7 : Nat) : Int), 0, (k : Int)]) := hsp.symm
      clear hsp
      generalize ((fromN k + cntO l + 7 : Nat) : Int) = RT at *
      generalize fromN k = fr at *
      generalize wpP A fr = WP at *
      go_enter Tryz.func52, Tryz.ntmps52
      go_wp2_with fail
      refine (unhide CM _ _ (unhide O0)).mono ?_
      rintro e w1 ⟨rfl, hb⟩
      have O1 := hide ((unhide O0).below (unhide T0) hb)
      clear hb O0 CM
      go_wp2_with fail
      refine (unhide CF _).mono ?_
      rintro e w2 ⟨rfl, hw2⟩
      subst hw2
      go_wp2_with fail
      refine (unhide CN _ _ (unhide O1).st).mono ?_
      rintro e w2 ⟨rfl, hw2⟩
      subst hw2
      go_wp2_with fail
      refine (unhide CL _ _ (unhide O1)).mono ?_
      rintro e w2 ⟨rfl, hb⟩
      have O2 := hide ((unhide O1).below (unhide T0) hb)
      clear hb O1 CL
      go_wp2_with fail
      refine (unhide CW _ _ (unhide O2).st).mono ?_
      rintro e w3 ⟨rfl, h1, h2⟩
      have O3 := hide ((unhide O2).call (St' := St WP.1) h1 h2)
      clear h1 h2 O2 CW
      by_cases h0 : WP.2 = 0
      · have HW1 := hide (unhide HWE h0)
        rw [h0]
        clear h0 HWE HWN
        go_wp2_with fail
        refine (unhide CR _ _ (unhide O3)).mono ?_
        rintro e w4 ⟨z, rfl, hz, h1, h2⟩
        have O4 := hide ((unhide O3).call (St' := St (wrtP WP.1 fr l).1) h1 h2)
        have HZ := hide hz
        clear h1 h2 O3 CR hz
        by_cases h0 : (wrtP WP.1 fr l).2 = 0
        · have HZ1 := hide (unhide HZ h0)
          have HW2 := hide ((unhide HW1).trans (andP_ok h0))
          have CX := hide ((unhide HM).write _ _ _ (unhide O4).st (unhide HO2) 0 0 SP (by rw [unhide HSP]; rfl))
          rw [unhide HSP, ← unhide HZ1] at CX
          have CX2 : Hid (Calls Tryz.prog 110 #[.pointer (some ⟨m, 0, none⟩), .int .i64 0, .int .i64 0, .agg #[.int .i64 1, .int .i64 z, .int .i64 0, .int .i64 (k : Int)]] w4 _) := unhide CX
          rw [unhide HSP, ← unhide HZ1] at HW2
          rw [h0]
          clear h0 HW1 HO2 CX HZ HZ1 HSP
          generalize (wrtP WP.1 fr l).1.writeZ 0 0 [1, z, 0, (k : Int)] = A5 at *
          generalize (wrtP WP.1 fr l).1.writeE 0 0 [1, z, 0, (k : Int)] = X5 at *
          go_wp2_with fail
          refine (unhide CX2).mono ?_
          rintro e w5 ⟨rfl, h1, h2⟩
          have O5 := hide ((unhide O4).call (St' := St A5) h1 h2)
          clear h1 h2 O4 CX2
          go_wp2_with fail
          go_ret
          exact Done.of ((unhide HM).stay _) (unhide O5) (unhide HW2)
        · have hb1 : ((wrtP WP.1 fr l).2 == 0) = false := by simpa using h0
          have hb2 : ((wrtP WP.1 fr l).2 != 0) = true := by simpa using h0
          have HW2 : Hid (RR = ((wrtP WP.1 fr l).1, (wrtP WP.1 fr l).2)) := (unhide HW1).trans (andP_no h0)
          clear h0 HW1 HO2
          generalize (wrtP WP.1 fr l).1 = A5 at *
          generalize (wrtP WP.1 fr l).2 = X5 at *
          go_wp2_with fail
          go_ret
          exact Done.of ((unhide HM).stay _) (unhide O4) (unhide HW2)
      · have hb1 : (WP.2 == 0) = false := by simpa using h0
        have hb2 : (WP.2 != 0) = true := by simpa using h0
        have HW1 := hide (unhide HWN h0)
        clear h0 HWE HWN HO1 HO2 CR
        generalize WP.1 = A5 at *
        generalize WP.2 = X5 at *
        go_wp2_with fail
        go_ret
        exact Done.of ((unhide HM).stay _) (unhide O3) (unhide HW1)

end Go.Proofs.YtiafhcgaikapcaaGreat
