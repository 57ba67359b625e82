
/-
  End: an object ends; its line, if it is its own, is free.
-/
import Derived.Test.YtjmgmbigbkllgaaOPut
namespace Go.Proofs.Ytjmgmbigbkllgaa
open Go.ChangeShapes Go.WideShapes Go.ChangeAt Go.RowKit Go.Joins
set_option maxRecDepth 10000
set_option linter.unusedVariables false
set_option linter.unusedSimpArgs false


theorem end_none {W w : World} {m b : Nat} {St : Mm → World → (Nat → Prop) → Prop} {S : Sto} {A : Mm} {G : Nat → Prop} (M : MemL W m St) (h : SHas W m b St S A w G) (z : Int) (hf : S.findE z ≠ 0) :
    Calls Try.prog 19 #[.pointer (some ⟨b, 0, none⟩), .int .i64 z] w (Done (SHas W m b St S A) w G (.int .i64 (S.findE z))) := by
  have T0 := hide (SHas.stay M b S A)
  have O0 := hide (Held.start (unhide T0) h)
  have CF := hide (find_any h.rep z)
  have hfb : (S.findE z != 0) = true := by simpa using hf
  have HA : Hid (foundV S z = .tuple #[.agg #[.int .i64 (S.at z).k, .int .i64 (S.at z).v, .int .i64 (S.at z).l], .int .i64 (S.findE z)]) := rfl
  rw [unhide HA] at CF
  clear hf h HA
  generalize S.findE z = E at *
  generalize S.at z = X at *
  go_enter Try.func19, Try.ntmps19
  go_wp2_with fail
  refine (unhide CF).mono ?_
  rintro e w1 ⟨rfl, hb⟩
  have O1 := hide ((unhide O0).below (unhide T0) hb)
  clear hb CF O0
  go_wp2_with fail
  go_ret
  exact ((unhide O1).alloc (unhide T0) _).done (unhide T0) _

set_option maxHeartbeats 2000000 in
theorem end_some {W w : World} {m b : Nat} {St : Mm → World → (Nat → Prop) → Prop} {S : Sto} {A : Mm} {G : Nat → Prop} (M : MemL W m St) (h : SHas W m b St S A w G) (hS : S.ok) (z : Int) (hf : S.findE z = 0) :
    Calls Try.prog 19 #[.pointer (some ⟨b, 0, none⟩), .int .i64 z] w (Done (SHas W m b St (S.endS z) A) w G (.int .i64 0)) := by
  have T0 := hide (SHas.stay M b S A)
  have O0 := hide (Held.start (unhide T0) h)
  have hz := findE_ok hf
  obtain ⟨i, rfl⟩ : ∃ i : Nat, z = (i : Int) := ⟨z.toNat, by omega⟩
  have hi : i < 49 := by omega
  obtain ⟨k, v0, l, hx⟩ : ∃ k v0 l, S.w i = ⟨k, v0, l⟩ := ⟨_, _, _, rfl⟩
  have hk : k ≠ 0 := by have := hz.2.2; rw [Int.toNat_natCast, hx] at this; exact this
  have eL : S.line (i : Int) = l := by unfold Sto.line; rw [Int.toNat_natCast, hx]
  have hv := hS.2 i hi
  rw [hx] at hv
  have hv0 : 0 ≤ v0 := hv.1
  have hv1 : v0 ≤ 16777215 := hv.2
  have CF := hide (find_any h.rep (i : Int))
  have HA : Hid (foundV S (i : Int) = .tuple #[.agg #[.int .i64 k, .int .i64 v0, .int .i64 l], .int .i64 0]) := by
    show foundV S (i : Int) = _
    unfold foundV Sto.at; rw [if_pos hf, hf, Int.toNat_natCast, hx]; rfl
  rw [unhide HA] at CF
  obtain ⟨N, hN⟩ : ∃ N, N = Go.Proofs.Ytjmgmbigbkllgaa.nextI v0 := ⟨_, rfl⟩
  have CE : Hid (∀ w, Calls Try.prog 47 #[.agg #[.int .i64 k, .int .i64 v0, .int .i64 l]] w fun e w' => e = .returned (.tuple #[.agg #[.int .i64 0, .int .i64 N, .int .i64 0], .int .i64 0]) ∧ Below w.heap.size w w') := fun w => by
    have := end3 k v0 l (by omega) (by omega) w
    rw [show endV ⟨k, v0, l⟩ = ⟨0, N, 0⟩ by rw [hN]; exact if_neg hk, show endE ⟨k, v0, l⟩ = 0 from if_neg hk] at this
    exact this
  have CR := hide (fun (w' : World) (h' : SFr m S w' b S.F) => sfree_any h' hS.1 l)
  have HE : Hid (endV (S.w i) = ⟨0, N, 0⟩) := by rw [hx, hN]; exact if_neg hk
  rcases Bool.eq_false_or_eq_true (S.own l) with ho | ho
  · have ES : Hid (S.endS (i : Int) = (S.withF (S.F.turnA l 1 0)).withW i ⟨0, N, 0⟩) := by
      show _ = _
      unfold Sto.endS Sto.endF
      rw [if_pos hf, eL, if_pos ho, Int.toNat_natCast, unhide HE]; rfl
    obtain ⟨SE, hSE⟩ : ∃ SE, SE = S.withF (S.F.turnA l 1 0) := ⟨_, rfl⟩
    have HSE := hide hSE
    rw [← hSE] at ES
    clear h hf hz HA hx eL hv hN HE hSE
    go_enter Try.func19, Try.ntmps19
    go_wp2_with fail
    refine (unhide CF).mono ?_
    rintro e w1 ⟨rfl, hb⟩
    have O1 := hide ((unhide O0).below (unhide T0) hb)
    clear hb CF O0
    have O2 := hide ((unhide O1).alloc (unhide T0) (.cells #[.int .i64 k, .int .i64 v0, .int .i64 l] 23))
    go_wp2_with fail
    obtain ⟨g5, hg5⟩ : ∃ g5, g5 = w1.heap.size := ⟨_, rfl⟩
    rw [← hg5] at O2 ⊢
    clear hg5 O1
    refine (unhide CE _).mono ?_
    rintro e w2 ⟨rfl, hb⟩
    have O3 := hide ((unhide O2).below (unhide T0) hb)
    have O4 := hide ((unhide O3).alloc (unhide T0) (.cells #[.int .i64 0, .int .i64 N, .int .i64 0] 23))
    clear hb O2 O3 CE
    have cg : (w2.alloc (.cells #[.int .i64 0, .int .i64 N, .int .i64 0] 23)).cell? ⟨g5, 2, none⟩ = some (.int .i64 l) := by rw [cell_of_block ((unhide O4).at g5 (.cells #[.int .i64 k, .int .i64 v0, .int .i64 l] 23) (by simp))]; rfl
    go_wp2_with fail
    obtain ⟨g7, hg7⟩ : ∃ g7, g7 = w2.heap.size := ⟨_, rfl⟩
    rw [← hg7] at O4 ⊢
    clear hg7
    refine (isOwn_any (unhide O4).st.rep l).mono ?_
    rintro e w3 ⟨rfl, hb⟩
    have O5 := hide ((unhide O4).below (unhide T0) hb)
    rw [ho]
    clear hb O4 cg
    have cg : w3.cell? ⟨g5, 2, none⟩ = some (.int .i64 l) := by rw [cell_of_block ((unhide O5).at g5 (.cells #[.int .i64 k, .int .i64 v0, .int .i64 l] 23) (by simp))]; rfl
    go_upto_region 8 with fail
    refine wp_region_noPanic ?_
    refine wp_region_held_drew (S := fun w' => w'.cell? ⟨g5, 2, none⟩ = some (.int .i64 l)) (by kernel_rfl) cg (fun hHeld => ?_)
    refine take_at 0 29 (v := ?_) rfl rfl (by kernel_rfl) (by kernel_rfl) (by kernel_rfl) (Or.inl ⟨by rfl, ?_⟩) hHeld ?_
    rotate_left
    · intro w hSw; go_simp; with_reducible rfl
    simp only [Act.put, List.setIfInBounds_toArray, List.set_cons_zero, List.set_cons_succ]
    refine take_at 1 30 (v := ?_) rfl rfl (by kernel_rfl) (by kernel_rfl) (by kernel_rfl) (Or.inl ⟨by rfl, ?_⟩) hHeld ?_
    rotate_left
    · intro w hSw; go_simp; with_reducible rfl
    simp only [Act.put, List.setIfInBounds_toArray, List.set_cons_zero, List.set_cons_succ]
    refine take_at 2 31 (v := ?_) rfl rfl (by kernel_rfl) (by kernel_rfl) (by kernel_rfl) (Or.inl ⟨by rfl, ?_⟩) hHeld ?_
    rotate_left
    · intro w hSw; go_simp; with_reducible rfl
    simp only [Act.put, List.setIfInBounds_toArray, List.set_cons_zero, List.set_cons_succ]
    refine take_at 3 32 (v := ?_) rfl rfl (by kernel_rfl) (by kernel_rfl) (by kernel_rfl) (Or.inl ⟨by rfl, ?_⟩) hHeld ?_
    rotate_left
    · intro w hSw; go_simp; with_reducible rfl
    simp only [Act.put, List.setIfInBounds_toArray, List.set_cons_zero, List.set_cons_succ]
    refine take_at 4 33 (v := ?_) rfl rfl (by kernel_rfl) (by kernel_rfl) (by kernel_rfl) (Or.inl ⟨by rfl, ?_⟩) hHeld ?_
    rotate_left
    · intro w hSw; have s1 := hSw; go_simp; with_reducible rfl
    simp only [Act.put, List.setIfInBounds_toArray, List.set_cons_zero, List.set_cons_succ]
    have O6 := hide ((unhide O5).drew (unhide T0))
    generalize w3.drew = wd at *
    refine wpAnyH_ready (rs := [5]) (by kernel_rfl) (by simp) ?_
    refine AllReadyH.cons rfl (fun K hK => ?_) AllReadyH.nil
    go_simp
    refine (unhide CR _ (unhide O6).st.rep).mono ?_
    intro e we hw
    obtain ⟨rfl, h1, h2⟩ := (unhide O6).st.went M hw
    rw [← unhide HSE] at h1
    have OE := hide ((unhide O6).call (St' := SHas W m b St SE A) h1 h2)
    have kg := (unhide OE).at g5 (.cells #[.int .i64 k, .int .i64 v0, .int .i64 l] 23) (by simp)
    go_wp2_with fail
    clear hHeld
    refine hK.out _ _ (by rw [cell_of_block kg]; rfl) (fun hNew => ?_)
    clear hK K hNew O6 O5 kg cg h1 h2 hw
    refine wpAnyH_done (by kernel_rfl) ?_ _
    refine NoPanic.normal ?_
    have kg7 := (unhide OE).at g7 (.cells #[.int .i64 0, .int .i64 N, .int .i64 0] 23) (by simp)
    have r7 : we.rangeAt g7 0 (ev ⟨0, N, 0⟩).toList := fun j v hv => by rw [cell_of_block kg7, Nat.zero_add, ← Array.getElem?_toList]; exact hv
    have tb : we.there b (1027 + i * 3) 3 := (unhide OE).st.there3 i hi
    have R7 := hide r7
    have TB := hide tb
    clear kg7 r7 tb
    go_upto_region 9 with fail
    refine wp_region_noPanic ?_
    refine wp_region_held_drew (S := fun w' => w'.rangeAt g7 0 (ev ⟨0, N, 0⟩).toList) (by kernel_rfl) (unhide R7) (fun hHeld => ?_)
    refine take_at 0 35 (v := ?_) rfl rfl (by kernel_rfl) (by kernel_rfl) (by kernel_rfl) (Or.inl ⟨by rfl, ?_⟩) hHeld ?_
    rotate_left
    · intro w hSw; go_simp; with_reducible rfl
    simp only [Act.put, List.setIfInBounds_toArray, List.set_cons_zero, List.set_cons_succ]
    refine take_at 1 36 (v := ?_) rfl rfl (by kernel_rfl) (by kernel_rfl) (by kernel_rfl) (Or.inl ⟨by rfl, ?_⟩) hHeld ?_
    rotate_left
    · intro w hSw; go_simp; with_reducible rfl
    simp only [Act.put, List.setIfInBounds_toArray, List.set_cons_zero, List.set_cons_succ]
    refine take_at 2 37 rfl rfl (by kernel_rfl) (by kernel_rfl) (by kernel_rfl) (yieldsIf_load_mid (by rfl) 23 _ rfl g7 0 rfl (ev ⟨0, N, 0⟩).toList _ (fun w' h => h) Try.underlying23 rfl size3) hHeld ?_
    simp only [Act.put, List.setIfInBounds_toArray, List.set_cons_zero, List.set_cons_succ]
    refine take_at 3 38 (v := ?_) rfl rfl (by kernel_rfl) (by kernel_rfl) (by kernel_rfl) (Or.inl ⟨by rfl, ?_⟩) hHeld ?_
    rotate_left
    · intro w hSw; go_simp; with_reducible rfl
    simp only [Act.put, List.setIfInBounds_toArray, List.set_cons_zero, List.set_cons_succ]
    refine take_at 4 39 (v := ?_) rfl rfl (by kernel_rfl) (by kernel_rfl) (by kernel_rfl) (Or.inl ⟨by rfl, ?_⟩) hHeld ?_
    rotate_left
    · intro w hSw; go_simp; with_reducible rfl
    simp only [Act.put, List.setIfInBounds_toArray, List.set_cons_zero, List.set_cons_succ]
    refine take_at 5 40 (v := .pointer (some ⟨b, 1027 + i * 3, none⟩)) rfl rfl (by kernel_rfl) (by kernel_rfl) (by kernel_rfl) (Or.inl ⟨by rfl, ?_⟩) hHeld ?_
    · intro w hSw; have hi1 : (i : Int) < 49 := by omega
      first | (go_simp; done) | (go_simp; rfl)
    simp only [Act.put, List.setIfInBounds_toArray, List.set_cons_zero, List.set_cons_succ]
    refine wpAnyH_ready (rs := [6]) (by kernel_rfl) (by simp) ?_
    refine AllReadyH.cons rfl (fun K hK => ?_) AllReadyH.nil
    refine (if_pos (by rfl)).mpr ?_
    refine wp_store_mid 23 (.tmp 40) (.tmp 37) rfl b (1027 + i * 3) (ev ⟨0, N, 0⟩) rfl rfl (unhide TB) size3 (ev_one _) ?_
    have OF := hide ((unhide OE).drew (SHas.stay M b _ _))
    have OT := hide (Held.turn (St' := SHas W m b St (SE.withW i ⟨0, N, 0⟩) A) (w' := we.drew.setCells b (1027 + i * 3) (ev ⟨0, N, 0⟩).toList) (unhide OF) ((unhide OF).st.put M i hi ⟨0, N, 0⟩))
    have kg7 := (unhide OT).at g7 (.cells #[.int .i64 0, .int .i64 N, .int .i64 0] 23) (by simp)
    have r7 : (we.drew.setCells b (1027 + i * 3) (ev ⟨0, N, 0⟩).toList).rangeAt g7 0 (ev ⟨0, N, 0⟩).toList := fun j v hv => by rw [cell_of_block kg7, Nat.zero_add, ← Array.getElem?_toList]; exact hv
    clear hHeld kg7
    refine hK.out _ _ r7 (fun hNew => ?_)
    clear hK K hNew OF OE r7
    refine wpAnyH_done (by kernel_rfl) ?_ _
    refine NoPanic.normal ?_
    go_wp2_with fail
    go_ret
    rw [unhide ES]
    exact (unhide OT).done (SHas.stay M b _ _) _
  · have ES : Hid (S.endS (i : Int) = S.withW i ⟨0, N, 0⟩) := by
      show _ = _
      unfold Sto.endS Sto.endF
      rw [if_pos hf, eL, if_neg (by simp [ho]), Int.toNat_natCast, unhide HE]; rfl
    obtain ⟨SE, hSE⟩ : ∃ SE, SE = S := ⟨_, rfl⟩
    subst hSE
    clear h hf hz HA hx eL hv hN HE
    go_enter Try.func19, Try.ntmps19
    go_wp2_with fail
    refine (unhide CF).mono ?_
    rintro e w1 ⟨rfl, hb⟩
    have O1 := hide ((unhide O0).below (unhide T0) hb)
    clear hb CF O0
    have O2 := hide ((unhide O1).alloc (unhide T0) (.cells #[.int .i64 k, .int .i64 v0, .int .i64 l] 23))
    go_wp2_with fail
    obtain ⟨g5, hg5⟩ : ∃ g5, g5 = w1.heap.size := ⟨_, rfl⟩
    rw [← hg5] at O2 ⊢
    clear hg5 O1
    refine (unhide CE _).mono ?_
    rintro e w2 ⟨rfl, hb⟩
    have O3 := hide ((unhide O2).below (unhide T0) hb)
    have O4 := hide ((unhide O3).alloc (unhide T0) (.cells #[.int .i64 0, .int .i64 N, .int .i64 0] 23))
    clear hb O2 O3 CE
    have cg : (w2.alloc (.cells #[.int .i64 0, .int .i64 N, .int .i64 0] 23)).cell? ⟨g5, 2, none⟩ = some (.int .i64 l) := by rw [cell_of_block ((unhide O4).at g5 (.cells #[.int .i64 k, .int .i64 v0, .int .i64 l] 23) (by simp))]; rfl
    go_wp2_with fail
    obtain ⟨g7, hg7⟩ : ∃ g7, g7 = w2.heap.size := ⟨_, rfl⟩
    rw [← hg7] at O4 ⊢
    clear hg7
    refine (isOwn_any (unhide O4).st.rep l).mono ?_
    rintro e w3 ⟨rfl, hb⟩
    have O5 := hide ((unhide O4).below (unhide T0) hb)
    rw [ho]
    clear hb O4 cg
    have cg : w3.cell? ⟨g5, 2, none⟩ = some (.int .i64 l) := by rw [cell_of_block ((unhide O5).at g5 (.cells #[.int .i64 k, .int .i64 v0, .int .i64 l] 23) (by simp))]; rfl
    have OE := O5
    clear O5 cg
    generalize w3 = we at *
    have kg7 := (unhide OE).at g7 (.cells #[.int .i64 0, .int .i64 N, .int .i64 0] 23) (by simp)
    have r7 : we.rangeAt g7 0 (ev ⟨0, N, 0⟩).toList := fun j v hv => by rw [cell_of_block kg7, Nat.zero_add, ← Array.getElem?_toList]; exact hv
    have tb : we.there b (1027 + i * 3) 3 := (unhide OE).st.there3 i hi
    have R7 := hide r7
    have TB := hide tb
    clear kg7 r7 tb
    go_upto_region 9 with fail
    refine wp_region_noPanic ?_
    refine wp_region_held_drew (S := fun w' => w'.rangeAt g7 0 (ev ⟨0, N, 0⟩).toList) (by kernel_rfl) (unhide R7) (fun hHeld => ?_)
    refine take_at 0 35 (v := ?_) rfl rfl (by kernel_rfl) (by kernel_rfl) (by kernel_rfl) (Or.inl ⟨by rfl, ?_⟩) hHeld ?_
    rotate_left
    · intro w hSw; go_simp; with_reducible rfl
    simp only [Act.put, List.setIfInBounds_toArray, List.set_cons_zero, List.set_cons_succ]
    refine take_at 1 36 (v := ?_) rfl rfl (by kernel_rfl) (by kernel_rfl) (by kernel_rfl) (Or.inl ⟨by rfl, ?_⟩) hHeld ?_
    rotate_left
    · intro w hSw; go_simp; with_reducible rfl
    simp only [Act.put, List.setIfInBounds_toArray, List.set_cons_zero, List.set_cons_succ]
    refine take_at 2 37 rfl rfl (by kernel_rfl) (by kernel_rfl) (by kernel_rfl) (yieldsIf_load_mid (by rfl) 23 _ rfl g7 0 rfl (ev ⟨0, N, 0⟩).toList _ (fun w' h => h) Try.underlying23 rfl size3) hHeld ?_
    simp only [Act.put, List.setIfInBounds_toArray, List.set_cons_zero, List.set_cons_succ]
    refine take_at 3 38 (v := ?_) rfl rfl (by kernel_rfl) (by kernel_rfl) (by kernel_rfl) (Or.inl ⟨by rfl, ?_⟩) hHeld ?_
    rotate_left
    · intro w hSw; go_simp; with_reducible rfl
    simp only [Act.put, List.setIfInBounds_toArray, List.set_cons_zero, List.set_cons_succ]
    refine take_at 4 39 (v := ?_) rfl rfl (by kernel_rfl) (by kernel_rfl) (by kernel_rfl) (Or.inl ⟨by rfl, ?_⟩) hHeld ?_
    rotate_left
    · intro w hSw; go_simp; with_reducible rfl
    simp only [Act.put, List.setIfInBounds_toArray, List.set_cons_zero, List.set_cons_succ]
    refine take_at 5 40 (v := .pointer (some ⟨b, 1027 + i * 3, none⟩)) rfl rfl (by kernel_rfl) (by kernel_rfl) (by kernel_rfl) (Or.inl ⟨by rfl, ?_⟩) hHeld ?_
    · intro w hSw; have hi1 : (i : Int) < 49 := by omega
      first | (go_simp; done) | (go_simp; rfl)
    simp only [Act.put, List.setIfInBounds_toArray, List.set_cons_zero, List.set_cons_succ]
    refine wpAnyH_ready (rs := [6]) (by kernel_rfl) (by simp) ?_
    refine AllReadyH.cons rfl (fun K hK => ?_) AllReadyH.nil
    refine (if_pos (by rfl)).mpr ?_
    refine wp_store_mid 23 (.tmp 40) (.tmp 37) rfl b (1027 + i * 3) (ev ⟨0, N, 0⟩) rfl rfl (unhide TB) size3 (ev_one _) ?_
    have OF := hide ((unhide OE).drew (SHas.stay M b _ _))
    have OT := hide (Held.turn (St' := SHas W m b St (SE.withW i ⟨0, N, 0⟩) A) (w' := we.drew.setCells b (1027 + i * 3) (ev ⟨0, N, 0⟩).toList) (unhide OF) ((unhide OF).st.put M i hi ⟨0, N, 0⟩))
    have kg7 := (unhide OT).at g7 (.cells #[.int .i64 0, .int .i64 N, .int .i64 0] 23) (by simp)
    have r7 : (we.drew.setCells b (1027 + i * 3) (ev ⟨0, N, 0⟩).toList).rangeAt g7 0 (ev ⟨0, N, 0⟩).toList := fun j v hv => by rw [cell_of_block kg7, Nat.zero_add, ← Array.getElem?_toList]; exact hv
    clear hHeld kg7
    refine hK.out _ _ r7 (fun hNew => ?_)
    clear hK K hNew OF OE r7
    refine wpAnyH_done (by kernel_rfl) ?_ _
    refine NoPanic.normal ?_
    go_wp2_with fail
    go_ret
    rw [unhide ES]
    exact (unhide OT).done (SHas.stay M b _ _) _

theorem end_obj {W w : World} {m b : Nat} {St : Mm → World → (Nat → Prop) → Prop} {S : Sto} {A : Mm} {G : Nat → Prop} (M : MemL W m St) (h : SHas W m b St S A w G) (hS : S.ok) (z : Int) :
    Calls Try.prog 19 #[.pointer (some ⟨b, 0, none⟩), .int .i64 z] w (Done (SHas W m b St (S.endS z) A) w G (.int .i64 (S.findE z))) := by
  by_cases hf : S.findE z = 0
  · rw [hf]; exact end_some M h hS z hf
  · have e1 : S.endS z = S := if_neg hf
    rw [e1]; exact end_none M h z hf

end Go.Proofs.Ytjmgmbigbkllgaa
