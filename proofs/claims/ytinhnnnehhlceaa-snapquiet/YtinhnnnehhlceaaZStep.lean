
/-
  Step.
-/
import Derived.Test.YtinhnnnehhlceaaZCalls
import Derived.Test.YtinhnnnehhlceaaZLeaf
import Derived.Test.YtinhnnnehhlceaaZSet
import Derived.Test.YtinhnnnehhlceaaZCommit
namespace Go.Proofs.Ytinhnnnehhlceaa
open Go.ChangeShapes Go.WideShapes Go.ChangeAt Go.RowKit Go.Joins
set_option maxRecDepth 100000
set_option linter.unusedVariables false
set_option linter.unusedSimpArgs false

/-- What a step must be. -/
def Wk.fine (K : Wk) (p : Nat × Int) : Prop :=
  p.1 = 1 ∨ (p.1 = 2 ∧ 0 ≤ p.2 ∧ p.2 < 7 ∧ leafKE (rowE 49 K.k) p.2 = 0) ∨ (p = (3, 7) ∧ rootE (tab7 K.d) = 0) ∨ p.1 = 4 ∨ (p.1 = 5 ∧ (0 ≤ K.gen ∧ K.gen ≤ 1099511627776) ∧ 0 ≤ K.sl ∧ K.sl ≤ 1)
theorem doK_l (K : Wk) (S : Sto) (A : Mm) (p : Nat × Int) : (K.doK S A p).l = K.l := by
  unfold Wk.doK Wk.put
  repeat' split
  all_goals rfl
/-- One step, whichever. -/
theorem wdo_any {W w : World} {m b x : Nat} {St : Mm → World → (Nat → Prop) → Prop} {S : Sto} {A : Mm} {K : Wk} {sl : Value} {G : Nat → Prop} (M : MemX W m St) (h : WH W m b x St S A K sl w G) (hS : S.ok) (hA : A.ok 900) (p : Nat × Int) (hp : K.fine p) :
    Calls Try.prog (fnS p.1) #[.pointer (some ⟨x, 0, none⟩), .int .i64 p.2] w (Done (WH W m b x St (K.doS S A p) (K.doM S A p) (K.doK S A p) sl) w G (.int .i64 (K.doE S A p))) := by
  have hA2 : A.ok 1000 := ok_mono hA (by omega)
  obtain ⟨k, z⟩ := p
  rcases hp with e | ⟨e, h1, h2, h3⟩ | ⟨e, h1⟩ | e | ⟨e, h1, h2⟩
  · have e' : k = 1 := e
    subst e'
    exact wflush_any M h hA2 z
  · have e' : k = 2 := e
    subst e'
    obtain ⟨n, hn⟩ : ∃ n : Nat, z = (n : Int) := ⟨z.toNat, by have : 0 ≤ z := h1; omega⟩
    subst hn
    have hlt : n < 7 := by have : (n : Int) < 7 := h2; omega
    have := wleaf_any M h hS hA n hlt h3
    exact this
  · obtain ⟨rfl, rfl⟩ := Prod.mk.inj e
    exact wroot_any M h hS hA h1
  · have e' : k = 4 := e
    subst e'
    exact wfence_any M h hA2 z
  · have e' : k = 5 := e
    subst e'
    exact wcommit_any M h hS hA h1 h2 z

theorem call_fn (k : Nat) (u v : Value) (W : World) : Sem.run Try.prog (callFunc (fnS k) #[u, v]) W = .ok (.enter (fnS k) #[u, v]) W := by
  unfold fnS
  split
  · kernel_rfl
  · split
    · kernel_rfl
    · split
      · kernel_rfl
      · split
        · kernel_rfl
        · kernel_rfl

set_option maxHeartbeats 8000000 in
theorem wstep_any {W w : World} {m b x : Nat} {St : Mm → World → (Nat → Prop) → Prop} {S : Sto} {A : Mm} {K : Wk} {G : Nat → Prop} (M : MemX W m St) (h0 : WHas W m b x St S A K w G) (hS : S.ok) (hA : A.ok 900) (hf : ∀ p r, K.l = p :: r → K.fine p) :
    Calls Try.prog 15 #[.pointer (some ⟨x, 0, none⟩)] w (Done (WHas W m b x St (K.stepS S A) (K.stepM S A) (K.stepK S A)) w G (.tuple #[.bool (K.stepD S A), .int .i64 (K.stepE S A)])) := by
  obtain ⟨sl, h⟩ := h0
  cases hl : K.l with
  | nil =>
    obtain ⟨e1, e2, e3, e4, e5⟩ := step_idle hl S A
    rw [e1, e2, e3, e4, e5]
    have CL := hide (wleft_any h)
    have hlen : K.l.length = 0 := by rw [hl]; rfl
    rw [hlen] at CL
    have HH : Hid (WHas W m b x St S A K w G) := ⟨sl, h⟩
    clear e1 e2 e3 e4 e5 h hlen hl hf
    go_enter Try.func15, Try.ntmps15
    go_wp2_with fail
    refine (unhide CL).mono ?_
    rintro e w ⟨rfl, rfl⟩
    go_wp2_with fail
    go_ret2
    exact ⟨rfl, unhide HH, fun _ _ => rfl⟩
  | cons p r =>
    rw [stepE_cons hl, stepM_cons hl]
    have ES := hide (stepS_cons hl S A)
    have EK := hide (stepK_cons hl S A)
    have ED := hide (stepD_cons hl S A)
    generalize K.stepS S A = SF at *
    generalize K.stepK S A = KF at *
    generalize K.stepD S A = DF at *
    have CL := hide (wleft_any h)
    have T0 := hide (WH.stay M.toMemL b x S A K sl)
    have hrow := h.row
    rw [hl] at hrow
    have hlen : K.l.length = r.length + 1 := by rw [hl]; rfl
    rw [hlen] at CL
    have hfp := hf p r hl
    have CD := hide (fun (w' : World) (G' : Nat → Prop) (h' : WH W m b x St S A K sl w' G') => wdo_any M h' hS hA p hfp)
    obtain ⟨g, o, c, hv, hc, r1, r2⟩ := hrow.first
    have cs := h.rep.cs
    rw [hv] at cs
    have c1 : w.cell? ⟨g, o, none⟩ = some (fnV p.1) := r1 0 _ rfl
    have c2 : w.cell? ⟨g, o + 1, none⟩ = some (.int .i64 p.2) := r1 1 _ rfl
    have KL := doK_l K S A p
    have HKL : Hid ((K.doK S A p).l = p :: r) := KL.trans hl
    have hSd := doS_ok hS K A p
    have O0 := hide ((Held.start (unhide T0) h).alloc (unhide T0) (.cells #[fnV p.1, .int .i64 p.2] 90))
    have HSL := hide hv
    have R1 := hide r1
    have R2 := hide r2
    have s2 : (Try.prog.info? 90).map (·.size) = some (spV p).length := by show _ = some 2; kernel_rfl
    have s2a : (Try.prog.info? 90).map (·.size) = some (#[fnV p.1, .int .i64 p.2] : Array Value).size := by show _ = some 2; kernel_rfl
    have Z2 : Hid ((Try.prog.info? 90).map (·.zero) = some (some (.agg #[.nilFunc, .int .i64 0]))) := by show _ = _; kernel_rfl
    have SZ2 : Hid ((#[.nilFunc, .int .i64 0] : Array Value).size = (#[fnV p.1, .int .i64 p.2] : Array Value).size) := rfl
    have X2 : Hid ((#[fnV p.1, .int .i64 p.2] : Array Value).all (·.oneCell') = true) := by show _ = _; unfold fnV; simp [Value.oneCell']
    have hsp : (spV p).toArray = #[fnV p.1, .int .i64 p.2] := rfl
    clear hrow hlen hf hfp h r1 r2 KL hl hv hS hA
    unfold fnV at s2a SZ2 X2 hsp
    have T1 := hide (WH.stay M.toMemL b x (K.doS S A p) (K.doM S A p) (K.doK S A p) sl)
    have hcall : ∀ W, Sem.run Try.prog (callFunc (fnS p.1) #[.pointer (some ⟨x, 0, none⟩), .int .i64 p.2]) W = .ok (.enter (fnS p.1) #[.pointer (some ⟨x, 0, none⟩), .int .i64 p.2]) W := fun W => call_fn _ _ _ W
    unfold fnV at c1 O0
    generalize hspv : spV p = sp at *
    clear hspv
    generalize fnS p.1 = F at *
    generalize p.2 = z at *
    generalize K.doE S A p = E at *
    generalize K.doS S A p = S2 at *
    generalize K.doM S A p = A2 at *
    generalize K.doK S A p = K2 at *
    have hlp : (((r.length + 1 : Nat) : Int) == 0) = false := by simp; omega
    have hn : r.length + 1 ≠ 0 := by omega
    go_enter Try.func15, Try.ntmps15
    go_wp2_with fail
    refine (unhide CL).mono ?_
    rintro e w ⟨rfl, rfl⟩
    clear CL
    go_upto_region 4 with (first | (with_reducible refine wpList_load_mid (by with_unfolding_all rfl) 90 _ (by with_unfolding_all rfl) g o (by with_unfolding_all rfl) sp _ (unhide R1) Try.underlying90 (by with_unfolding_all rfl) s2 ?_; rw [hsp]) | (with_reducible refine wpList_allocZ (by with_unfolding_all rfl) 90 (by with_unfolding_all rfl) #[.nilFunc, .int .i64 0] (unhide Z2) ?_) | (with_reducible refine wpList_store_row (by with_unfolding_all rfl) 90 _ _ (by with_unfolding_all rfl) w.heap.size #[.func (.func F) #[] #[], .int .i64 z] (by with_unfolding_all rfl) (by with_unfolding_all rfl) 90 #[.nilFunc, .int .i64 0] (heap_new w _) s2a (unhide SZ2) (unhide X2) ?_; rw [setRow_alloc]))
    obtain ⟨g4, hg4⟩ : ∃ g4, g4 = w.heap.size := ⟨_, rfl⟩
    rw [← hg4] at O0 ⊢
    clear hg4
    generalize w.alloc (.cells #[.func (.func F) #[] #[], .int .i64 z] 90) = w1 at *
    have c40 : w1.cell? ⟨g4, 0, none⟩ = some (.func (.func F) #[] #[]) := by rw [cell_of_block ((unhide O0).at g4 (.cells #[.func (.func F) #[] #[], .int .i64 z] 90) (by simp))]; rfl
    have c41 : w1.cell? ⟨g4, 1, none⟩ = some (.int .i64 z) := by rw [cell_of_block ((unhide O0).at g4 (.cells #[.func (.func F) #[] #[], .int .i64 z] 90) (by simp))]; rfl
    clear cs c1 c2 R1 s2 s2a Z2 SZ2 X2 hsp
    go_wp2_with fail
    refine (unhide CD _ _ (unhide O0).st).mono ?_
    intro e w2 hd
    have O1 := hide (((unhide O0).call (St' := WH W m b x St S2 A2 K2 sl) hd.2.1 hd.2.2).less (unhide T1) (L' := []) (by simp))
    obtain ⟨rfl, -, -⟩ := hd
    clear CD O0 c40 c41 hcall T0
    by_cases h10 : E = 10
    · subst h10
      have ES2 := hide ((unhide ES).trans (if_pos rfl))
      have EK2 := hide ((unhide EK).trans (if_pos rfl))
      have ED2 : Hid (DF = false) := (unhide ED).trans (decide_eq_false (fun c => by simp at c))
      clear ES EK ED
      have pb := (unhide O1).st.rep.pb
      have CA := hide (abort_any M.toMemL (unhide O1).st.st hSd)
      have T2 := hide (WH.stay M.toMemL b x S2.abortS A2 K2 sl)
      generalize S2.abortS = S3 at *
      generalize S2.doneE = E3 at *
      go_wp2_with fail
      refine (unhide CA).mono ?_
      intro e w3 hd
      have hd2 := (unhide O1).st.lift hd
      obtain ⟨rfl, -, -⟩ := hd
      have O2 := hide ((unhide O1).call (St' := WH W m b x St S3 A2 K2 sl) hd2.2.1 hd2.2.2)
      clear hd2 O1 CA pb
      have FIN := (unhide O2).st.setC M.toMemL (G := G) (fun k hk => Or.inl hk) 0 (fun _ => ze) (fun _ => 0) (.slice none 0 0) [] (Or.inl ⟨rfl, none, 0, rfl⟩) (fun g' e => by simp [Value.ownBlock] at e)
      have F1 := hide FIN.1
      have F2 : Hid (Same G w (w3.setCells x 7 (ckV 0 (fun _ => ze) (fun _ => 0) (.slice none 0 0)).toList)) := (unhide O2).2.2.trans fun k hk => FIN.2 k (Or.inl hk)
      have TBx : Hid (w3.there x 7 (ckV 0 (fun _ => ze) (fun _ => 0) (.slice none 0 0)).size) := by show w3.there _ _ _; rw [ckV_size]; exact Blk.there (unhide O2).st.rep _ _ (by decide)
      have BB := hide built_ck0
      have XB := hide (ckV_one 0 (fun _ => ze) (fun _ => 0) none 0 0)
      have sB := s157 0 (fun _ => ze) (fun _ => 0) (.slice none 0 0)
      clear FIN O2
      generalize ckV 0 (fun _ => ze) (fun _ => 0) (.slice none 0 0) = CV at *
      go_wp2_with (first | (with_reducible refine wpList_build0 (by with_unfolding_all rfl) 83 (by with_unfolding_all rfl) CV (unhide BB) ?_) | (with_reducible refine wpList_store_mid (by with_unfolding_all rfl) 83 _ _ (by with_unfolding_all rfl) x 7 CV (by with_unfolding_all rfl) (by with_unfolding_all rfl) (unhide TBx) sB (unhide XB) ?_))
      go_ret2
      rw [unhide ES2, unhide EK2, unhide ED2]
      exact ⟨rfl, ⟨_, unhide F1⟩, unhide F2⟩
    · have h10b : (E == 10) = false := by simpa using h10
      have ES2 := hide ((unhide ES).trans (if_neg h10))
      have EK2 := hide ((unhide EK).trans (if_neg h10))
      clear ES EK h10
      by_cases h0 : E = 0
      · subst h0
        have EK3 := hide ((unhide EK2).trans (if_pos rfl))
        have cs := (unhide O1).st.rep.cs
        rw [unhide HSL] at cs
        have hc1 : 1 ≤ c := by omega
        have f163 := (unhide O1).st.rep.fr 163
        clear EK2 h10b
        have hrow2 := (unhide O1).st.row
        rw [unhide HKL] at hrow2
        obtain ⟨g', o', c', hv', -, -, r2'⟩ := hrow2.first
        rw [unhide HSL] at hv'
        obtain ⟨e1, -, -⟩ := Value.slice.inj hv'
        have e1' := Option.some.inj e1
        obtain ⟨e2, e3, -⟩ := Addr.mk.inj e1'
        subst e2 e3
        have RR := hide r2'
        have OB : Hid (sl.ownBlock = some g) := by show _ = _; rw [unhide HSL]; rfl
        have K2L : Hid (K2.less r = K2.less r) := rfl
        clear hrow2 hv' e1 e1' r2'
        by_cases hc2 : c = 1
        · have hr0 : r = [] := List.eq_nil_of_length_eq_zero (by omega)
          subst hr0 hc2
          have O2 := hide (Held.turn (unhide O1) ((unhide O1).st.setS M.toMemL (.slice (some ⟨g, o, none⟩) 0 0) [] (Or.inl ⟨rfl, _, 0, rfl⟩) (fun q e => by rw [unhide OB]; exact e)))
          clear O1 RR hc hc1
          go_upto_region 11 with fail
          clear cs f163
          generalize w2.setCell ⟨x, 163, none⟩ (.slice (some ⟨g, o, none⟩) 0 0) = w3 at *
          have CL := hide (wleft_any (unhide O2).st)
          have hl0 : (K2.less []).l.length = 0 := rfl
          rw [hl0] at CL
          go_wp2_with fail
          refine (unhide CL).mono ?_
          rintro e w4 ⟨rfl, rfl⟩
          go_wp2_with fail
          go_ret2
          rw [unhide ES2, unhide EK3, unhide ED]
          exact ⟨by simp, ⟨_, (unhide O2).done (WH.stay M.toMemL b x S2 A2 (K2.less []) _) (.tuple #[]) |>.2.1⟩, (unhide O2).2.2⟩
        · have O2 := hide (Held.turn (unhide O1) ((unhide O1).st.setS M.toMemL (.slice (some ⟨g, o + 2, none⟩) r.length (c - 1)) r (Or.inr ⟨g, o + 2, c - 1, rfl, by omega, unhide RR⟩) (fun q e => by rw [unhide OB]; exact e)))
          clear O1 RR
          go_upto_region 11 with fail
          clear cs f163
          generalize w2.setCell ⟨x, 163, none⟩ (.slice (some ⟨g, o + 2, none⟩) r.length (c - 1)) = w3 at *
          have CL := hide (wleft_any (unhide O2).st)
          have hl0 : (K2.less r).l.length = r.length := rfl
          rw [hl0] at CL
          have hd0 : Hid (decide (True ∧ r = []) = ((r.length : Int) == 0)) := by
            show _ = _
            cases r with
            | nil => rfl
            | cons a t =>
              have h1 : (((a :: t).length : Int) == 0) = false := beq_eq_false_iff_ne.2 (by rw [List.length_cons]; omega)
              rw [h1]; simp
          go_wp2_with fail
          refine (unhide CL).mono ?_
          rintro e w4 ⟨rfl, rfl⟩
          go_wp2_with fail
          go_ret2
          rw [unhide ES2, unhide EK3, unhide ED, unhide hd0]
          exact ⟨rfl, ⟨_, (unhide O2).done (WH.stay M.toMemL b x S2 A2 (K2.less r) _) (.tuple #[]) |>.2.1⟩, (unhide O2).2.2⟩
      · have h0b : (E == 0) = false := by simpa using h0
        have h0c : (E != 0) = true := by simpa using h0
        have EK3 := hide ((unhide EK2).trans (if_neg h0))
        have ED2 : Hid (DF = false) := (unhide ED).trans (decide_eq_false (fun c => h0 c.1))
        clear EK2 ED h0
        go_wp2_with fail
        go_ret2
        rw [unhide ES2, unhide EK3, unhide ED2]
        exact ⟨rfl, ⟨_, (unhide O1).done (unhide T1) (.tuple #[]) |>.2.1⟩, (unhide O1).2.2⟩

end Go.Proofs.Ytinhnnnehhlceaa
