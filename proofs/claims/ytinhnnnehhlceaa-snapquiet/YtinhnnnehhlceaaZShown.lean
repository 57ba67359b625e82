
/-
  The document's examples (steadfastlaw11.shown); a step of a checkpoint, as the laws meet it.
-/
import Derived.Test.YtinhnnnehhlceaaZPhase
import Derived.Test.YtinhnnnehhlceaaZBegin
namespace Go.Proofs.Ytinhnnnehhlceaa
open Go.ChangeShapes Go.WideShapes Go.ChangeAt Go.RowKit Go.Joins
set_option maxRecDepth 100000
set_option linter.unusedVariables false
set_option linter.unusedSimpArgs false

/-- What a step leaves. -/
def StPost (N : Nat) (fr : Bool) (S0 : Sto) (A0 : Mm) (K0 : Wk) (W : World) (m b x : Nat) (St : Mm → World → (Nat → Prop) → Prop) (B l : Nat) (w : World) (G : Nat → Prop) (e : Ending) (w' : World) : Prop :=
  ∃ S A K E D l', e = .returned (.tuple #[.bool D, .int .i64 E]) ∧ WHas W m b x St S A K w' G ∧ Same G w w' ∧ A.ok (B + 11) ∧ Ph N fr S0 A0 K0 S A K E l' ∧ ((E = 0 ∧ D = decide (l = 0) ∧ l' = l) ∨ (fr = false ∧ E = 10 ∧ D = false ∧ l' = 0))
theorem ph_call {N : Nat} {fr : Bool} {S0 : Sto} {A0 : Mm} {K0 : Wk} {W w : World} {m b x : Nat} {St : Mm → World → (Nat → Prop) → Prop} {S : Sto} {A : Mm} {K : Wk} {G : Nat → Prop} {l B : Nat} (h64 : 64 ≤ N) (M : MemX W m St) (h : WHas W m b x St S A K w G) (hA : A.ok B) (hB : B ≤ 900) (hp : Ph N fr S0 A0 K0 S A K 0 (l + 1)) :
    Calls Try.prog 15 #[.pointer (some ⟨x, 0, none⟩)] w (StPost N fr S0 A0 K0 W m b x St B l w G) := by
  refine (wstep_any M h hp.1.good.ok (ok_mono hA hB) hp.fine).mono ?_
  rintro e w' ⟨rfl, h1, h2⟩
  rcases hp.step h64 with ⟨e1, e2, e3⟩ | ⟨e0, e1, e2, e3⟩
  · exact ⟨_, _, _, _, _, l, rfl, h1, h2, wstepM_ok hA K S, by rw [e1]; exact e3, Or.inl ⟨e1, e2, rfl⟩⟩
  · exact ⟨_, _, _, _, _, 0, rfl, h1, h2, wstepM_ok hA K S, by rw [e1]; exact e3, Or.inr ⟨e0, e1, e2, rfl⟩⟩
/-- A checkpoint of which nothing is left, for which frames sufficed, is committed. -/
theorem Ph.ended {N : Nat} {S0 : Sto} {A0 : Mm} {K0 : Wk} {S : Sto} {A : Mm} {K : Wk} (h : Ph N true S0 A0 K0 S A K 0 0) : Ended S0 K0 S K := by
  rcases h.2 with ⟨_, h1, u⟩ | ⟨_, _, h1⟩ | ⟨q, _⟩
  · exact absurd (List.eq_nil_of_length_eq_zero h1.symm) u.ne
  · exact h1
  · cases q
theorem sup_wk0 : Sup wk0 := ⟨rfl, by decide, by decide, Or.inl rfl, by decide, by decide⟩
theorem steps_3 : (stepsOf (sS 3 80).w (sS 3 80).b).length = 3 := by decide +kernel
theorem left_3 : 8 ≤ (sS 3 80).F.left := by decide +kernel

set_option maxHeartbeats 16000000 in
theorem zshown_any (W : World) : Calls Try.prog 5 #[] W fun e w' => e = .returned (.bool true) ∧ Keeps (fun _ => False) W w' := by
  have M := hide (Has.memX W)
  have CM := hide (zmade_any W W (Keeps.refl _ _) (fun _ => False) (fun _ h => h.elim) 80 3 (by decide) (by decide) (by decide))
  go_enter Try.func5, Try.ntmps5
  go_wp2_with fail
  refine (unhide CM).mono ?_
  rintro e w1 ⟨m, b, x, rfl, hw, -⟩
  have HW0 := hide hw
  clear hw CM
  have g0 := hide (good_start 3 80 (by decide) (by decide) (by decide))
  have a0 := hide (iA_ok 3 80 (by decide) (by decide))
  have CS := hide (wstep_any (unhide M m) (unhide HW0) (unhide g0).ok (ok_mono (unhide a0) (by decide)) (fun p r h => by cases h))
  obtain ⟨i1, i2, i3, i4, i5⟩ := step_idle (K := wk0) rfl (sS 3 80) (iA 3 80)
  rw [i1, i2, i3, i4, i5] at CS
  clear i1 i2 i3 i4 i5 HW0
  go_wp2_with fail
  refine (unhide CS).mono ?_
  rintro e w2 ⟨rfl, h1, -⟩
  have HW1 := hide h1
  have CB := hide (wbegin_any (unhide M m) h1 (-1))
  have b1 : wk0.beginE (sS 3 80) (-1) = 1 := by rfl
  have b2 : wk0.beginS (sS 3 80) (-1) = sS 3 80 := by rfl
  have b3 : wk0.beginK (sS 3 80) (-1) = wk0 := by rfl
  rw [b1, b2, b3] at CB
  clear b1 b2 b3 h1 HW1 CS
  go_wp2_with fail
  refine (unhide CB).mono ?_
  rintro e w3 ⟨rfl, h1, -⟩
  obtain ⟨s1, s2⟩ := Ph.start (N := 80) (fr := true) (A0 := iA 3 80) (K0 := wk0) (z := 0) (unhide g0) (calm_new _ _) rfl rfl sup_wk0 ⟨by decide, by decide⟩ rfl (fun _ => left_3)
  rw [steps_3] at s2
  have CB2 := hide (wbegin_any (unhide M m) h1 0)
  rw [s1] at CB2
  have HP := hide s2
  clear s1 s2 h1 CB
  have g0' := g0
  clear g0 g0'
  have HS0 : Hid (wk0.gen = 1) := rfl
  have HS1 : Hid (wk0.sl = 0) := rfl
  generalize wk0.beginS (sS 3 80) 0 = S1 at *
  generalize wk0.beginK (sS 3 80) 0 = K1 at *
  generalize sS 3 80 = S0 at *
  generalize iA 3 80 = A0 at *
  generalize wk0 = K0 at *
  go_wp2_with fail
  refine (unhide CB2).mono ?_
  rintro e w4 ⟨rfl, h1, -⟩
  have HW := hide h1
  have hlen := (unhide HP).len
  obtain ⟨sl, hwh⟩ := h1
  have CL := hide (wleft_any hwh)
  rw [hlen] at CL
  clear hwh hlen CB2
  go_wp2_with fail
  refine (unhide CL).mono ?_
  rintro e w4 ⟨rfl, rfl⟩
  have CS := hide (ph_call (by decide) (unhide M m) (unhide HW) (unhide a0) (by decide) (unhide HP))
  clear CL HW HP a0
  go_wp2_with fail
  refine (unhide CS).mono ?_
  rintro e w9 ⟨S, A, K, E, D, l', rfl, h1, h2, h3, h4, h5⟩
  rcases h5 with ⟨rfl, rfl, rfl⟩ | ⟨q, _⟩
  rotate_left
  · cases q
  clear CS
  have HW := hide h1
  have HA := hide h3
  have HP := hide h4
  clear h1 h2 h3 h4
  have CS := hide (ph_call (by decide) (unhide M m) (unhide HW) (unhide HA) (by decide) (unhide HP))
  clear HW HA HP
  go_wp2_with fail
  refine (unhide CS).mono ?_
  rintro e w9 ⟨S, A, K, E, D, l', rfl, h1, h2, h3, h4, h5⟩
  rcases h5 with ⟨rfl, rfl, rfl⟩ | ⟨q, _⟩
  rotate_left
  · cases q
  clear CS
  have HW := hide h1
  have HA := hide h3
  have HP := hide h4
  clear h1 h2 h3 h4
  have CS := hide (ph_call (by decide) (unhide M m) (unhide HW) (unhide HA) (by decide) (unhide HP))
  clear HW HA HP
  go_wp2_with fail
  refine (unhide CS).mono ?_
  rintro e w9 ⟨S, A, K, E, D, l', rfl, h1, h2, h3, h4, h5⟩
  rcases h5 with ⟨rfl, rfl, rfl⟩ | ⟨q, _⟩
  rotate_left
  · cases q
  clear CS
  have HW := hide h1
  have HA := hide h3
  have HP := hide h4
  clear h1 h2 h3 h4
  have HE := hide (unhide HP).ended
  obtain ⟨sl, hwh⟩ := unhide HW
  have HWH := hide hwh
  clear hwh HW
  obtain ⟨b0, b1, b2, b3, hb⟩ : ∃ b0 b1 b2 b3, K.b = [b0, b1, b2, b3] := by
    have := (unhide HE).len
    match hK : K.b, this with
    | [b0, b1, b2, b3], _ => exact ⟨b0, b1, b2, b3, rfl⟩
  have hb0 : b0 = 2 := by
    have h1 := (unhide HE).g
    unfold Wk.gen at h1
    rw [hb] at h1
    have h2 := unhide HS0
    unfold Wk.gen at h2
    rw [h2] at h1
    exact h1
  have hs1 : K.sl = 1 := by rw [(unhide HE).sl, unhide HS1]; decide
  have CP := hide (wsuper_any (unhide M m).toMemL (unhide HWH) (unhide HE).len)
  rw [hb, hs1, hb0] at CP
  have hKL : K.l.length = 0 := by rw [(unhide HE).l]; rfl
  have KW := hide (fun (w' : World) (hb' : Below w9.heap.size w9 w') => (WH.stay (unhide M m).toMemL b x S A K sl).bl _ _ _ (unhide HWH) (Keeps.of_below hb'))
  clear hb hb0 hs1 HP HA HE HS0 HS1
  go_wp2_with fail
  refine (unhide CP).mono ?_
  rintro e w10 ⟨rfl, hbl⟩
  have HW2 := hide ((WH.stay (unhide M m).toMemL b x S A K sl).al _ _ (.cells (iv .i64 [2, b1, b2, b3]) 61) (unhide KW w10 hbl))
  have s4 := s4_sup [2, b1, b2, b3] rfl
  have X4 := hide (iv_one .i64 [2, b1, b2, b3])
  have SZ : Hid ((#[.int .i64 0, .int .i64 0, .int .i64 0, .int .i64 0] : Array Value).size = (iv .i64 [2, b1, b2, b3]).size) := rfl
  have Z4 : Hid ((Try.prog.info? 61).map (·.zero) = some (some (.agg #[.int .i64 0, .int .i64 0, .int .i64 0, .int .i64 0]))) := by show _ = _; kernel_rfl
  have CC : Hid ((w10.alloc (.cells (iv .i64 [2, b1, b2, b3]) 61)).cell? ⟨w10.heap.size, 0, none⟩ = some (.int .i64 2)) := by show _ = _; rw [cell_of_block (heap_new w10 _)]; rfl
  clear hbl CP KW HWH
  generalize iv .i64 [2, b1, b2, b3] = BV at *
  go_upto_region 12 with (first | (with_reducible refine wpList_allocZ (by with_unfolding_all rfl) 61 (by with_unfolding_all rfl) #[.int .i64 0, .int .i64 0, .int .i64 0, .int .i64 0] (unhide Z4) ?_) | (with_reducible refine wpList_store_row (by with_unfolding_all rfl) 61 _ _ (by with_unfolding_all rfl) w10.heap.size BV (by with_unfolding_all rfl) (by with_unfolding_all rfl) 61 #[.int .i64 0, .int .i64 0, .int .i64 0, .int .i64 0] (heap_new w10 _) s4 (unhide SZ) (unhide X4) ?_; rw [setRow_alloc]))
  obtain ⟨g, hg⟩ : ∃ g, g = w10.heap.size := ⟨_, rfl⟩
  rw [← hg] at CC ⊢
  clear hg
  generalize w10.alloc (.cells BV 61) = w11 at *
  have cg := unhide CC
  have CL := hide (wleft_any (unhide HW2))
  rw [hKL] at CL
  go_wp2_with fail
  refine (unhide CL).mono ?_
  rintro e w12 ⟨rfl, rfl⟩
  go_wp2_with fail
  go_ret
  exact ⟨rfl, (WH.stay (unhide M m).toMemL b x S A K sl).sz _ _ (unhide HW2)⟩

end Go.Proofs.Ytinhnnnehhlceaa
