
/-
  Commit, Abort.
-/
import Derived.Test.YtjmgmbigbkllgaaOUnmark
namespace Go.Proofs.Ytjmgmbigbkllgaa
open Go.ChangeShapes Go.WideShapes Go.ChangeAt Go.RowKit Go.Joins
set_option maxRecDepth 10000
set_option linter.unusedVariables false
set_option linter.unusedSimpArgs false

theorem abort_any {W w : World} {m b : Nat} {St : Mm → World → (Nat → Prop) → Prop} {S : Sto} {A : Mm} {G : Nat → Prop} (M : MemL W m St) (h : SHas W m b St S A w G) (hS : S.ok) :
    Calls Try.prog 26 #[.pointer (some ⟨b, 0, none⟩)] w (Done (SHas W m b St S.abortS A) w G (.int .i64 S.doneE)) := by
  have ci := h.rep.cis
  cases hi : S.is with
  | true =>
    have e1 : S.abortS = S.unmarkS := by unfold Sto.abortS; rw [hi]; rfl
    have e2 : S.doneE = 0 := by unfold Sto.doneE; rw [hi]; rfl
    rw [e1, e2]
    rw [hi] at ci
    have CU := hide (unmark_any M h hS)
    clear h hi e1 e2
    go_enter Try.func26, Try.ntmps26
    go_wp2_with fail
    refine (unhide CU).mono ?_
    rintro e w1 ⟨rfl, h1, h2⟩
    have H1 := hide h1
    have H2 := hide h2
    clear h1 h2 CU ci
    go_wp2_with fail
    go_ret
    exact ⟨rfl, unhide H1, unhide H2⟩
  | false =>
    have e1 : S.abortS = S := by unfold Sto.abortS; rw [hi]; rfl
    have e2 : S.doneE = 3 := by unfold Sto.doneE; rw [hi]; rfl
    rw [e1, e2]
    rw [hi] at ci
    have HH := hide h
    clear h hi e1 e2
    go_enter Try.func26, Try.ntmps26
    go_wp2_with fail
    go_ret
    exact ⟨rfl, unhide HH, fun _ _ => rfl⟩

set_option maxHeartbeats 2000000 in
theorem commit_any {W w : World} {m b : Nat} {St : Mm → World → (Nat → Prop) → Prop} {S : Sto} {A : Mm} {G : Nat → Prop} (M : MemL W m St) (h : SHas W m b St S A w G) (hS : S.ok) (d : Nat → Int) :
    Calls Try.prog 25 #[.pointer (some ⟨b, 0, none⟩), .agg (dirV d)] w (Done (SHas W m b St (S.commitS d) A) w G (.int .i64 S.doneE)) := by
  have T0 := hide (SHas.stay M b S A)
  have O0 := hide ((Held.start (unhide T0) h).alloc (unhide T0) (.cells (dirV d) 60))
  have ci : (w.alloc (.cells (dirV d) 60)).cell? ⟨b, 1476, none⟩ = some (.bool S.is) := (unhide O0).st.rep.cis
  cases hi : S.is with
  | false =>
    have e1 : S.commitS d = S := by unfold Sto.commitS; rw [hi]; rfl
    have e2 : S.doneE = 3 := by unfold Sto.doneE; rw [hi]; rfl
    rw [e1, e2]
    rw [hi] at ci
    clear h hi e1 e2
    go_enter Try.func25, Try.ntmps25
    go_wp2_with fail
    go_ret
    exact (unhide O0).done (unhide T0) _
  | true =>
    have e1 : S.commitS d = (Sto.mk S.F S.w S.k d S.k S.is).unmarkS := by unfold Sto.commitS; rw [hi]; rfl
    have e2 : S.doneE = 0 := by unfold Sto.doneE; rw [hi]; rfl
    rw [e1, e2]
    rw [hi] at ci
    have CU := hide (fun (w' : World) (G' : Nat → Prop) (h' : SHas W m b St (Sto.mk S.F S.w S.k d S.k S.is) A w' G') => unmark_any M h' ⟨hS.1, hS.2⟩)
    have s147 := s147_tab S.k
    have s8 := s8_dir d
    obtain ⟨g, hg⟩ : ∃ g, g = w.heap.size := ⟨_, rfl⟩
    rw [← hg] at O0
    clear h hi e1 e2
    go_enter Try.func25, Try.ntmps25
    go_upto_region 3 with fail
    rw [← hg]
    clear hg ci
    generalize w.alloc (.cells (dirV d) 60) = w1 at *
    have RG : Hid (∀ (S' : Sto) (w' : World), Held W (SHas W m b St S' A) w w' G [(g, .cells (dirV d) 60)] → w'.rangeAt g 0 (dirV d).toList) := fun S' w' O j v hv => by
      rw [cell_of_block (O.at g (.cells (dirV d) 60) (by simp)), Nat.zero_add, ← Array.getElem?_toList]; exact hv
    have O1 := hide ((unhide O0).drew (unhide T0))
    refine wp_region_noPanic ?_
    refine wp_region_held_drew (S := fun w' => w'.rangeAt b 1329 (tabV S.k).toList ∧ w'.rangeAt g 0 (dirV d).toList) (by kernel_rfl) ⟨(unhide O1).st.rep.rk, unhide RG _ _ (unhide O1)⟩ (fun hHeld => ?_)
    clear O0
    generalize w1.drew = w2 at *
    refine take_at 0 10 (v := ?_) rfl rfl (by kernel_rfl) (by kernel_rfl) (by kernel_rfl) (Or.inl ⟨by rfl, ?_⟩) hHeld ?_
    rotate_left
    · intro w hSw; go_simp; with_reducible rfl
    simp only [Act.put, List.setIfInBounds_toArray, List.set_cons_zero, List.set_cons_succ]
    refine take_at 1 11 (v := ?_) rfl rfl (by kernel_rfl) (by kernel_rfl) (by kernel_rfl) (Or.inl ⟨by rfl, ?_⟩) hHeld ?_
    rotate_left
    · intro w hSw; go_simp; with_reducible rfl
    simp only [Act.put, List.setIfInBounds_toArray, List.set_cons_zero, List.set_cons_succ]
    refine take_at 2 12 (v := ?_) rfl rfl (by kernel_rfl) (by kernel_rfl) (by kernel_rfl) (Or.inl ⟨by rfl, ?_⟩) hHeld ?_
    rotate_left
    · intro w hSw; go_simp; with_reducible rfl
    simp only [Act.put, List.setIfInBounds_toArray, List.set_cons_zero, List.set_cons_succ]
    refine take_at 3 13 (v := ?_) rfl rfl (by kernel_rfl) (by kernel_rfl) (by kernel_rfl) (Or.inl ⟨by rfl, ?_⟩) hHeld ?_
    rotate_left
    · intro w hSw; go_simp; with_reducible rfl
    simp only [Act.put, List.setIfInBounds_toArray, List.set_cons_zero, List.set_cons_succ]
    refine take_at 4 14 (v := ?_) rfl rfl (by kernel_rfl) (by kernel_rfl) (by kernel_rfl) (Or.inl ⟨by rfl, ?_⟩) hHeld ?_
    rotate_left
    · intro w hSw; go_simp; with_reducible rfl
    simp only [Act.put, List.setIfInBounds_toArray, List.set_cons_zero, List.set_cons_succ]
    refine take_at 5 15 rfl rfl (by kernel_rfl) (by kernel_rfl) (by kernel_rfl) (yieldsIf_load_mid (by rfl) 59 _ rfl b 1329 rfl (tabV S.k).toList _ (fun w' h => h.1) Try.underlying59 rfl (by rw [Array.length_toList]; exact s147)) hHeld ?_
    simp only [Act.put, List.setIfInBounds_toArray, List.set_cons_zero, List.set_cons_succ]
    refine take_at 6 16 rfl rfl (by kernel_rfl) (by kernel_rfl) (by kernel_rfl) (yieldsIf_load_mid (by rfl) 60 _ rfl g 0 rfl (dirV d).toList _ (fun w' h => h.2) Try.underlying60 rfl (by rw [Array.length_toList]; exact s8)) hHeld ?_
    simp only [Act.put, List.setIfInBounds_toArray, List.set_cons_zero, List.set_cons_succ]
    refine take_at 7 17 (v := ?_) rfl rfl (by kernel_rfl) (by kernel_rfl) (by kernel_rfl) (Or.inl ⟨by rfl, ?_⟩) hHeld ?_
    rotate_left
    · intro w hSw; go_simp; with_reducible rfl
    simp only [Act.put, List.setIfInBounds_toArray, List.set_cons_zero, List.set_cons_succ]
    refine take_at 8 18 (v := ?_) rfl rfl (by kernel_rfl) (by kernel_rfl) (by kernel_rfl) (Or.inl ⟨by rfl, ?_⟩) hHeld ?_
    rotate_left
    · intro w hSw; go_simp; with_reducible rfl
    simp only [Act.put, List.setIfInBounds_toArray, List.set_cons_zero, List.set_cons_succ]
    refine wpAnyH_ready (rs := [9]) (by kernel_rfl) (by simp) ?_
    refine AllReadyH.cons rfl (fun K hK => ?_) AllReadyH.nil
    refine (if_pos (by rfl)).mpr ?_
    have TB : w2.there b 1174 (tabV S.k).size := by rw [tabV_size]; exact Blk.there (unhide O1).st.rep _ _ (by decide)
    refine wp_store_mid 59 (.tmp 18) (.tmp 15) rfl b 1174 (tabV S.k) rfl rfl TB s147 (tabV_one _) ?_
    have R1 := (unhide O1).st.rep.putB S.k
    have O2 := hide (Held.turn (unhide O1) (St' := SHas W m b St ⟨S.F, S.w, S.k, S.d, S.k, S.is⟩ A) (w' := w2.setCells b 1174 (tabV S.k).toList) ((unhide O1).st.turned M R1 (keeps_cells b _ _ _)))
    clear hHeld TB R1
    refine hK.out _ _ ⟨(unhide O2).st.rep.rk, unhide RG _ _ (unhide O2)⟩ (fun hNew => ?_)
    have hHeld := hNew
    clear hK K O1 hNew
    generalize w2.setCells b 1174 _ = w3 at *
    refine take_at 10 19 (v := ?_) rfl rfl (by kernel_rfl) (by kernel_rfl) (by kernel_rfl) (Or.inl ⟨by rfl, ?_⟩) hHeld ?_
    rotate_left
    · intro w hSw; go_simp; with_reducible rfl
    simp only [Act.put, List.setIfInBounds_toArray, List.set_cons_zero, List.set_cons_succ]
    refine take_at 11 20 (v := ?_) rfl rfl (by kernel_rfl) (by kernel_rfl) (by kernel_rfl) (Or.inl ⟨by rfl, ?_⟩) hHeld ?_
    rotate_left
    · intro w hSw; go_simp; with_reducible rfl
    simp only [Act.put, List.setIfInBounds_toArray, List.set_cons_zero, List.set_cons_succ]
    refine wpAnyH_ready (rs := [12]) (by kernel_rfl) (by simp) ?_
    refine AllReadyH.cons rfl (fun K hK => ?_) AllReadyH.nil
    refine (if_pos (by rfl)).mpr ?_
    have TB : w3.there b 1321 (dirV d).size := by rw [dirV_size]; exact Blk.there (unhide O2).st.rep _ _ (by decide)
    refine wp_store_mid 60 (.tmp 20) (.tmp 16) rfl b 1321 (dirV d) rfl rfl TB s8 (dirV_one _) ?_
    have R1 := (unhide O2).st.rep.putD d
    have O3 := hide (Held.turn (unhide O2) (St' := SHas W m b St ⟨S.F, S.w, S.k, d, S.k, S.is⟩ A) (w' := w3.setCells b 1321 (dirV d).toList) ((unhide O2).st.turned M R1 (keeps_cells b _ _ _)))
    clear hHeld TB R1
    refine hK.out _ _ ⟨(unhide O3).st.rep.rk, unhide RG _ _ (unhide O3)⟩ (fun hNew => ?_)
    clear hK K O2 hNew
    generalize w3.setCells b 1321 _ = w4 at *
    refine wpAnyH_done (by kernel_rfl) ?_ _
    refine NoPanic.normal ?_
    have CV := hide (unhide CU _ _ (unhide O3).st)
    clear CU RG s147 s8
    go_wp2_with fail
    refine (unhide CV).mono ?_
    rintro e w5 ⟨rfl, h1, h2⟩
    have O4 := hide ((unhide O3).call (St' := SHas W m b St (Sto.mk S.F S.w S.k d S.k S.is).unmarkS A) h1 h2)
    clear h1 h2 CV O3
    go_wp2_with fail
    go_ret
    exact (unhide O4).done (SHas.stay M b _ _) _

end Go.Proofs.Ytjmgmbigbkllgaa
