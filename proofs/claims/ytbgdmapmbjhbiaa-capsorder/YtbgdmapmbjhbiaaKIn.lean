
/-
  caps.Within: what it returns, for whatever two words; nothing that was there turns.
-/
import Derived.Test.YtbgdmapmbjhbiaaKCalls
import Derived.Deep.QuietTactic
import Derived.BigQuiet
namespace Go.Proofs.Ytbgdmapmbjhbiaa
open Go.ChangeShapes Go.WideShapes Go.ChangeAt Go.RowKit Go.Joins
set_option maxRecDepth 10000
set_option linter.unusedVariables false
set_option linter.unusedSimpArgs false

theorem own_range {W w : World} {L : List (Nat × Obj)} (h : Own W w L) (g : Nat) (cs : List Value) (t : TypeId) (fr : Nat × Nat) (hm : (g, Obj.cells cs.toArray t fr) ∈ L) : w.rangeAt g 0 cs := fun j v hv => by
  rw [cell_of_block (h.at g _ hm), Nat.zero_add]; simpa using hv
theorem hasAll_below (h x : Int) (w : World) : Calls Try.prog 27 #[.int .i64 h, .int .i64 x] w fun e w' => e = .returned (.bool (hasI h x)) ∧ Below w.heap.size w w' :=
  (hasAll_any h x w).mono (fun e w' h => ⟨h.1, by rw [h.2]; exact Below.refl _ _⟩)

theorem below_dn {B : Nat} {a w : World} (h : Below B a w) (n : Nat) : Below B a (w.drewN n) := h.trans ⟨rfl, rfl, rfl, Nat.le_refl _, fun _ _ => rfl⟩

def tgt (c : Cp) : Cp := ⟨c.k, 0, c.i, c.v, 0⟩
theorem inB_tgt (a b : Int) : inB a b = (isC a && isC b && decide (tgt (ofC a) = tgt (ofC b)) && hasI (ofC b).r (ofC a).r) := by
  unfold inB
  congr 2
  refine decide_eq_decide.2 ?_
  unfold tgt
  simp


theorem in_any (a b : Int) (h0 : 0 ≤ a) (h1 : a ≤ 18446744073709551615) (g0 : 0 ≤ b) (g1 : b ≤ 18446744073709551615) (w : World) : Calls Try.prog 16 #[.int .u64 a, .int .u64 b] w fun e w' => e = .returned (.bool (inB a b)) ∧ Below w.heap.size w w' := by
  have O1 := hide (of_any a h0 h1)
  have O2 := hide (of_any b g0 g1)
  rw [inB_tgt]
  cases hA : isC a with
  | false =>
    rw [Bool.false_and, Bool.false_and, Bool.false_and]
    rw [hA] at O1
    have nA := cv_new (ofV a) 23
    have zA := cv_size (ofV a)
    have nB := cv_new (ofV b) 23
    have zB := cv_size (ofV b)
    generalize cv (ofV a) = A at *
    generalize cv (ofV b) = B at *
    generalize isC b = T at *
    go_enter Try.func16, Try.ntmps16
    go_wp2_with fail
    refine (unhide O1 _).mono ?_
    rintro e w1 ⟨rfl, hb1⟩
    go_wp2_with fail
    refine (unhide O2 _).mono ?_
    rintro e w2 ⟨rfl, hb2⟩
    have O3 := hide (((((Own.start w).call hb1).alloc (.cells A 23)).call hb2).alloc (.cells B 23))
    clear hb1 hb2
    go_wp2_with fail
    go_quiet (fail)
    go_wp2_with fail
    go_ret
    exact ⟨rfl, below_dn (unhide O3).below _⟩
  | true =>
    cases hB : isC b with
    | false =>
      rw [Bool.and_false, Bool.false_and, Bool.false_and]
      rw [hA] at O1
      rw [hB] at O2
      have nA := cv_new (ofV a) 23
      have zA := cv_size (ofV a)
      have nB := cv_new (ofV b) 23
      have zB := cv_size (ofV b)
      generalize cv (ofV a) = A at *
      generalize cv (ofV b) = B at *
      go_enter Try.func16, Try.ntmps16
      go_wp2_with fail
      refine (unhide O1 _).mono ?_
      rintro e w1 ⟨rfl, hb1⟩
      go_wp2_with fail
      refine (unhide O2 _).mono ?_
      rintro e w2 ⟨rfl, hb2⟩
      have O3 := hide (((((Own.start w).call hb1).alloc (.cells A 23)).call hb2).alloc (.cells B 23))
      clear hb1 hb2
      go_wp2_with fail
      go_quiet (fail)
      go_wp2_with fail
      go_ret
      exact ⟨rfl, below_dn (unhide O3).below _⟩
    | true =>
      rw [Bool.and_true, Bool.true_and]
      rw [hA, ofV_is a hA] at O1
      rw [hB, ofV_is b hB] at O2
      generalize ofC a = ca at *
      generalize ofC b = cb at *
      have TA := hide (target_any ca)
      have TB := hide (target_any cb)
      have EQ : Hid (∀ w, (Op.equalIn 10000 23 (.agg (cv (tgt ca))) (.agg (cv (tgt cb)))).run Try.prog w = .ok (decide (tgt ca = tgt cb)) w) := fun w => equal_cap _ _ w
      have HA := hide (hasAll_below cb.r ca.r)
      have nA := cv_new ca 23
      have zA := cv_size ca
      have nB := cv_new cb 23
      have zB := cv_size cb
      have sA : (Try.prog.info? 23).map (·.size) = some (cv ca).toList.length := size5
      have sB : (Try.prog.info? 23).map (·.size) = some (cv cb).toList.length := size5
      have rA : (cv ca)[1]? = some (.int .i64 ca.r) := rfl
      have rB : (cv cb)[1]? = some (.int .i64 cb.r) := rfl
      generalize ca.r = ra at *
      generalize cb.r = rb at *
      rw [show cv ⟨ca.k, 0, ca.i, ca.v, 0⟩ = cv (tgt ca) from rfl] at TA
      rw [show cv ⟨cb.k, 0, cb.i, cb.v, 0⟩ = cv (tgt cb) from rfl] at TB
      generalize decide (tgt ca = tgt cb) = D at *
      generalize hasI rb ra = H at *
      generalize cv (tgt ca) = XA at *
      generalize cv (tgt cb) = XB at *
      generalize cv ca = A at *
      generalize cv cb = B at *
      go_enter Try.func16, Try.ntmps16
      go_wp2_with fail
      refine (unhide O1 _).mono ?_
      rintro e w1 ⟨rfl, hb1⟩
      go_wp2_with fail
      refine (unhide O2 _).mono ?_
      rintro e w2 ⟨rfl, hb2⟩
      have O3 := hide (((((Own.start w).call hb1).alloc (.cells A 23)).call hb2).alloc (.cells B 23))
      clear hb1 hb2
      go_wp2_with fail
      generalize hWW : w2.alloc (.cells B 23) = WW at *
      have HS : Hid ((fun w' : World => Own w w' [(w2.heap.size, .cells B 23), (w1.heap.size, .cells A 23)]) WW.drew) := (unhide O3).drew
      clear O3 hWW
      generalize w2.heap.size = gb at *
      generalize w1.heap.size = ga at *
      have LA : Hid (∀ w' : World, Own w w' [(gb, .cells B 23), (ga, .cells A 23)] → w'.rangeAt ga 0 A.toList) := fun w' h => own_range h ga A.toList 23 (0, 0) (by simp)
      have LB : Hid (∀ w' : World, Own w w' [(gb, .cells B 23), (ga, .cells A 23)] → w'.rangeAt gb 0 B.toList) := fun w' h => own_range h gb B.toList 23 (0, 0) (by simp)
      have CA : Hid (∀ w' : World, Own w w' [(gb, .cells B 23), (ga, .cells A 23)] → w'.cell? ⟨ga, 1, none⟩ = some (.int .i64 ra)) := fun w' h => by rw [cell_of_block (h.at ga (.cells A 23) (by simp))]; exact rA
      have CB : Hid (∀ w' : World, Own w w' [(gb, .cells B 23), (ga, .cells A 23)] → w'.cell? ⟨gb, 1, none⟩ = some (.int .i64 rb)) := fun w' h => by rw [cell_of_block (h.at gb (.cells B 23) (by simp))]; exact rB
      refine wp_region_noPanic ?_
      refine wp_region_held_drew (S := fun w' => Own w w' [(gb, .cells B 23), (ga, .cells A 23)]) (by kernel_rfl) (unhide HS) (fun hHeld => ?_)
      refine take_at 0 19 (v := ?_) rfl rfl (by kernel_rfl) (by kernel_rfl) (by kernel_rfl) (Or.inl ⟨by rfl, ?_⟩) hHeld ?_
      rotate_left
      · intro w hSw; go_simp; with_reducible rfl
      simp only [Act.put, List.setIfInBounds_toArray, List.set_cons_zero, List.set_cons_succ]
      refine take_at 1 20 (v := ?_) rfl rfl (by kernel_rfl) (by kernel_rfl) (by kernel_rfl) (Or.inl ⟨by rfl, ?_⟩) hHeld ?_
      rotate_left
      · intro w hSw; go_simp; with_reducible rfl
      simp only [Act.put, List.setIfInBounds_toArray, List.set_cons_zero, List.set_cons_succ]
      refine take_at 2 21 (v := ?_) rfl rfl (by kernel_rfl) (by kernel_rfl) (by kernel_rfl) (Or.inl ⟨by rfl, ?_⟩) hHeld ?_
      rotate_left
      · intro w hSw; go_simp; with_reducible rfl
      simp only [Act.put, List.setIfInBounds_toArray, List.set_cons_zero, List.set_cons_succ]
      refine take_at 3 22 (v := ?_) rfl rfl (by kernel_rfl) (by kernel_rfl) (by kernel_rfl) (Or.inl ⟨by rfl, ?_⟩) hHeld ?_
      rotate_left
      · intro w hSw; go_simp; with_reducible rfl
      simp only [Act.put, List.setIfInBounds_toArray, List.set_cons_zero, List.set_cons_succ]
      refine take_at 4 23 (v := ?_) rfl rfl (by kernel_rfl) (by kernel_rfl) (by kernel_rfl) (Or.inl ⟨by rfl, ?_⟩) hHeld ?_
      rotate_left
      · intro w hSw; go_simp; with_reducible rfl
      simp only [Act.put, List.setIfInBounds_toArray, List.set_cons_zero, List.set_cons_succ]
      refine take_at 5 24 rfl rfl (by kernel_rfl) (by kernel_rfl) (by kernel_rfl) (yieldsIf_load_mid (by rfl) 23 _ rfl ga 0 rfl A.toList _ (fun w h => unhide LA w h) Try.underlying23 rfl sA) hHeld ?_
      simp only [Act.put, List.setIfInBounds_toArray, List.set_cons_zero, List.set_cons_succ]
      refine take_at 7 26 rfl rfl (by kernel_rfl) (by kernel_rfl) (by kernel_rfl) (yieldsIf_load_mid (by rfl) 23 _ rfl gb 0 rfl B.toList _ (fun w h => unhide LB w h) Try.underlying23 rfl sB) hHeld ?_
      simp only [Act.put, List.setIfInBounds_toArray, List.set_cons_zero, List.set_cons_succ]
      refine wpAnyH_ready (rs := [6]) (by kernel_rfl) (by simp) ?_
      refine AllReadyH.cons rfl (fun K hK => ?_) AllReadyH.nil
      go_simp
      refine (unhide TA _).mono ?_
      rintro e w' ⟨rfl, hbx⟩
      go_wp2_with fail
      refine hK.out _ _ (hHeld.call hbx) (fun hNew => ?_)
      clear hK K hHeld hbx
      have hHeld := hNew
      clear hNew
      refine wpAnyH_ready (rs := [8]) (by kernel_rfl) (by simp) ?_
      refine AllReadyH.cons rfl (fun K hK => ?_) AllReadyH.nil
      go_simp
      refine (unhide TB _).mono ?_
      rintro e w' ⟨rfl, hbx⟩
      go_wp2_with fail
      refine hK.out _ _ (hHeld.call hbx) (fun hNew => ?_)
      clear hK K hHeld hbx
      have hHeld := hNew
      clear hNew
      refine take_at 9 28 rfl rfl (by kernel_rfl) (by kernel_rfl) (by kernel_rfl) (yieldsIf_eql (by rfl) 23 23 _ _ rfl XA XB rfl rfl cap_guard D (unhide EQ)) hHeld ?_
      simp only [Act.put, List.setIfInBounds_toArray, List.set_cons_zero, List.set_cons_succ]
      refine take_at 10 29 (v := ?_) rfl rfl (by kernel_rfl) (by kernel_rfl) (by kernel_rfl) (Or.inl ⟨by rfl, ?_⟩) hHeld ?_
      rotate_left
      · intro w hSw; go_simp; with_reducible rfl
      simp only [Act.put, List.setIfInBounds_toArray, List.set_cons_zero, List.set_cons_succ]
      refine take_at 11 30 (v := ?_) rfl rfl (by kernel_rfl) (by kernel_rfl) (by kernel_rfl) (Or.inl ⟨by rfl, ?_⟩) hHeld ?_
      rotate_left
      · intro w hSw; go_simp; with_reducible rfl
      simp only [Act.put, List.setIfInBounds_toArray, List.set_cons_zero, List.set_cons_succ]
      cases D with
      | false =>
        refine take_at 12 31 rfl rfl (by kernel_rfl) (by kernel_rfl) (by kernel_rfl) (Or.inr ⟨by rfl, rfl⟩) hHeld ?_
        simp only [Act.put, List.setIfInBounds_toArray, List.set_cons_zero, List.set_cons_succ]
        refine take_at 13 32 rfl rfl (by kernel_rfl) (by kernel_rfl) (by kernel_rfl) (Or.inr ⟨by rfl, rfl⟩) hHeld ?_
        simp only [Act.put, List.setIfInBounds_toArray, List.set_cons_zero, List.set_cons_succ]
        refine take_at 14 33 rfl rfl (by kernel_rfl) (by kernel_rfl) (by kernel_rfl) (Or.inr ⟨by rfl, rfl⟩) hHeld ?_
        simp only [Act.put, List.setIfInBounds_toArray, List.set_cons_zero, List.set_cons_succ]
        refine take_at 15 34 rfl rfl (by kernel_rfl) (by kernel_rfl) (by kernel_rfl) (Or.inr ⟨by rfl, rfl⟩) hHeld ?_
        simp only [Act.put, List.setIfInBounds_toArray, List.set_cons_zero, List.set_cons_succ]
        refine take_at 16 35 rfl rfl (by kernel_rfl) (by kernel_rfl) (by kernel_rfl) (Or.inr ⟨by rfl, rfl⟩) hHeld ?_
        simp only [Act.put, List.setIfInBounds_toArray, List.set_cons_zero, List.set_cons_succ]
        refine take_at 17 36 (v := ?_) rfl rfl (by kernel_rfl) (by kernel_rfl) (by kernel_rfl) (Or.inl ⟨by rfl, ?_⟩) hHeld ?_
        rotate_left
        · intro w hSw; go_simp; with_reducible rfl
        simp only [Act.put, List.setIfInBounds_toArray, List.set_cons_zero, List.set_cons_succ]
        refine take_at 18 4 (v := ?_) rfl rfl (by kernel_rfl) (by kernel_rfl) (by kernel_rfl) (Or.inl ⟨by rfl, ?_⟩) hHeld ?_
        rotate_left
        · intro w hSw; go_simp; with_reducible rfl
        simp only [Act.put, List.setIfInBounds_toArray, List.set_cons_zero, List.set_cons_succ]
        refine wpAnyH_done (by kernel_rfl) ?_ _
        refine NoPanic.normal ?_
        go_wp2_with fail
        go_ret
        exact ⟨rfl, hHeld.below⟩
      | true =>
        refine take_at 12 31 (v := ?_) rfl rfl (by kernel_rfl) (by kernel_rfl) (by kernel_rfl) (Or.inl ⟨by rfl, ?_⟩) hHeld ?_
        rotate_left
        · intro w hSw; go_simp; with_reducible rfl
        simp only [Act.put, List.setIfInBounds_toArray, List.set_cons_zero, List.set_cons_succ]
        refine take_at 13 32 (v := ?_) rfl rfl (by kernel_rfl) (by kernel_rfl) (by kernel_rfl) (Or.inl ⟨by rfl, ?_⟩) hHeld ?_
        rotate_left
        · intro w hSw; have c := unhide CB w hSw; go_simp; with_reducible rfl
        simp only [Act.put, List.setIfInBounds_toArray, List.set_cons_zero, List.set_cons_succ]
        refine take_at 14 33 (v := ?_) rfl rfl (by kernel_rfl) (by kernel_rfl) (by kernel_rfl) (Or.inl ⟨by rfl, ?_⟩) hHeld ?_
        rotate_left
        · intro w hSw; go_simp; with_reducible rfl
        simp only [Act.put, List.setIfInBounds_toArray, List.set_cons_zero, List.set_cons_succ]
        refine take_at 15 34 (v := ?_) rfl rfl (by kernel_rfl) (by kernel_rfl) (by kernel_rfl) (Or.inl ⟨by rfl, ?_⟩) hHeld ?_
        rotate_left
        · intro w hSw; have c := unhide CA w hSw; go_simp; with_reducible rfl
        simp only [Act.put, List.setIfInBounds_toArray, List.set_cons_zero, List.set_cons_succ]
        refine wpAnyH_ready (rs := [16]) (by kernel_rfl) (by simp) ?_
        refine AllReadyH.cons rfl (fun K hK => ?_) AllReadyH.nil
        go_simp
        refine (unhide HA _).mono ?_
        rintro e w' ⟨rfl, hbx⟩
        go_wp2_with fail
        refine hK.out _ _ (hHeld.call hbx) (fun hNew => ?_)
        clear hK K hHeld hbx
        have hHeld := hNew
        clear hNew
        refine take_at 17 36 (v := ?_) rfl rfl (by kernel_rfl) (by kernel_rfl) (by kernel_rfl) (Or.inl ⟨by rfl, ?_⟩) hHeld ?_
        rotate_left
        · intro w hSw; go_simp; with_reducible rfl
        simp only [Act.put, List.setIfInBounds_toArray, List.set_cons_zero, List.set_cons_succ]
        refine take_at 18 4 (v := ?_) rfl rfl (by kernel_rfl) (by kernel_rfl) (by kernel_rfl) (Or.inl ⟨by rfl, ?_⟩) hHeld ?_
        rotate_left
        · intro w hSw; go_simp; with_reducible rfl
        simp only [Act.put, List.setIfInBounds_toArray, List.set_cons_zero, List.set_cons_succ]
        refine wpAnyH_done (by kernel_rfl) ?_ _
        refine NoPanic.normal ?_
        go_wp2_with fail
        go_ret
        exact ⟨rfl, hHeld.below⟩

end Go.Proofs.Ytbgdmapmbjhbiaa
