
/-
  claim: all lines that are named are taken, or one can not be.
-/
import Derived.Test.YtjmgmbigbkllgaaOUnmark
import Derived.Test.YtjmgmbigbkllgaaOTake
namespace Go.Proofs.Ytjmgmbigbkllgaa
open Go.ChangeShapes Go.WideShapes Go.ChangeAt Go.RowKit Go.Joins
set_option maxRecDepth 10000
set_option linter.unusedVariables false
set_option linter.unusedSimpArgs false

theorem dirTo_split (d : Nat → Int) (j : Nat) (h : j ≤ 8) : ∃ r, dirTo d 8 = dirTo d j ++ r := by
  obtain ⟨n, hn⟩ : ∃ n, 8 = j + n := ⟨8 - j, by omega⟩
  unfold dirTo
  rw [hn, List.range_add, List.map_append]
  exact ⟨_, rfl⟩
theorem linesTo_split (f : Nat → En) (j : Nat) (h : j ≤ 49) : ∃ r, linesTo f 49 = linesTo f j ++ r := by
  obtain ⟨n, hn⟩ : ∃ n, 49 = j + n := ⟨49 - j, by omega⟩
  unfold linesTo
  rw [hn, List.range_add, List.filter_append, List.map_append]
  exact ⟨_, rfl⟩
theorem shas_drewN {W w : World} {m b : Nat} {St : Mm → World → (Nat → Prop) → Prop} {S : Sto} {A : Mm} {G : Nat → Prop} (M : MemL W m St) (h : SHas W m b St S A w G) (n : Nat) : SHas W m b St S A (w.drewN n) G := (SHas.stay M b S A).bl _ _ _ h ⟨rfl, rfl, rfl, Nat.le_refl _, fun _ _ _ => rfl⟩
/-- Behind claim: all are taken; or not. -/
def Claimed (St' : Sto → World → (Nat → Prop) → Prop) (S : Sto) (w : World) (G : Nat → Prop) (e : Ending) (w' : World) : Prop :=
  e = .returned (.bool (S.F.takesB (claimL S.w S.d))) ∧ ∃ F, F.ok ∧ St' (S.withF F) w' G ∧ Same G w w' ∧ (S.F.takesB (claimL S.w S.d) = true → F = S.F.takeL (claimL S.w S.d))
set_option maxHeartbeats 2000000 in
theorem claim_any {W w : World} {m b : Nat} {St : Mm → World → (Nat → Prop) → Prop} {S : Sto} {A : Mm} {G : Nat → Prop} (M : MemL W m St) (h : SHas W m b St S A w G) (hS : S.F.ok) :
    Calls Try.prog 37 #[.pointer (some ⟨b, 0, none⟩)] w (Claimed (fun S' => SHas W m b St S' A) S w G) := by
  have RD : Hid (w.rangeAt b 1321 (dirV S.d).toList) := h.rep.rd
  have HXD : Hid (∀ (U : World) (j : Nat), j < 8 → Sem.run Try.prog (Instr.index 60 (.agg (dirV S.d)) (.int .i64 (j : Int))) U = .ok (.int .i64 (S.d j)) U) := fun U j hj => run_index_dir U S.d j hj
  have s8' : (Try.prog.info? 60).map (·.size) = some (dirV S.d).toList.length := by rw [Array.length_toList]; exact s8_dir _
  have H0 : Hid (SHas W m b St (S.withF (S.F.takeL (dirTo S.d 0))) A w G) := h
  clear h
  generalize dirV S.d = DV at *
  go_enter Try.func37, Try.ntmps37
  go_wp2_with (with_reducible refine wpList_load_mid (by with_unfolding_all rfl) 60 _ (by with_unfolding_all rfl) b 1321 (by with_unfolding_all rfl) DV.toList _ (unhide RD) Try.underlying60 (by with_unfolding_all rfl) s8' ?_)
  go_loopw [4, 11] (fun _ c wr => ∃ j : Nat, j ≤ 8 ∧ c = .int .i64 j ∧ S.F.takesB (dirTo S.d j) = true ∧ SHas W m b St (S.withF (S.F.takeL (dirTo S.d j))) A wr G ∧ Same G w wr) (fun _ c _ => 8 - (intOf c).toNat)
  case atStart => exact ⟨0, by omega, rfl, rfl, unhide H0, fun _ _ => rfl⟩
  case round =>
    clear H0 RD
    obtain ⟨j, hj, rfl, hb, hh, hs⟩ := hrel
    have HH := hide hh
    have HB := hide hb
    have HSM := hide hs
    clear hh hb hs
    by_cases hlt : j < 8
    · have hix := fun U => unhide HXD U j hlt
      have CT := hide (stake_any (unhide HH).rep.frs (takeL_ok (dirTo S.d j) hS) (S.d j))
      have EA : Hid ((S.F.takeL (dirTo S.d j)).turnA (S.d j) 0 1 = S.F.takeL (dirTo S.d (j + 1))) := by show _ = _; rw [dirTo_next, takeL_snoc]
      have EB : Hid (S.F.takesB (dirTo S.d (j + 1)) = decide ((S.F.takeL (dirTo S.d j)).turnE (S.d j) 0 = 0)) := by show _ = _; rw [dirTo_next, takesB_snoc, unhide HB, Bool.true_and]
      have CT2 := hide (unhide CT)
      obtain ⟨E, hE⟩ : ∃ E, E = (S.F.takeL (dirTo S.d j)).turnE (S.d j) 0 := ⟨_, rfl⟩
      have CT3 : Hid (Calls Try.prog 54 #[.pointer (some ⟨b, 1, none⟩), .int .i64 (S.d j)] wr (SWent m (S.withF (S.F.takeL (dirTo S.d j))) wr b (S.F.takeL (dirTo S.d (j + 1))) (.int .i64 E))) := by
        have := unhide CT
        rw [hE, ← unhide EA]; exact this
      rw [← hE] at EB
      clear CT CT2 hE EA
      by_cases hz : E = 0
      · subst hz
        have HB2 : Hid (S.F.takesB (dirTo S.d (j + 1)) = true) := by show _ = _; rw [unhide EB]; rfl
        generalize S.d j = z at *
        go_wp2_with fail
        refine (unhide CT3).mono ?_
        intro e wn hw
        obtain ⟨rfl, h1, h2⟩ := (unhide HH).went M hw
        have H1 : Hid (SHas W m b St (S.withF (S.F.takeL (dirTo S.d (j + 1)))) A wn G) := h1
        have H2 := hide ((unhide HSM).trans h2)
        clear hw h1 h2 CT3 HH HSM hix
        go_wp2_with fail
        go_roundw
        case rel => exact ⟨j + 1, by omega, by go_num, unhide HB2, unhide H1, unhide H2⟩
        case measure => simp [intOf]; omega
      · have hEb : (E != 0) = true := by simpa using hz
        have HF : Hid (S.F.takesB (claimL S.w S.d) = false) := by
          have h1 : S.F.takesB (dirTo S.d (j + 1)) = false := by rw [unhide EB]; simpa using hz
          obtain ⟨r, hr⟩ := dirTo_split S.d (j + 1) (by omega)
          show _ = _
          unfold claimL; rw [hr, List.append_assoc]; exact takesB_part _ _ _ h1
        have hfo := hide (takeL_ok (dirTo S.d (j + 1)) hS)
        clear hz
        generalize S.d j = z at *
        go_wp2_with fail
        refine (unhide CT3).mono ?_
        intro e wn hw
        obtain ⟨rfl, h1, h2⟩ := (unhide HH).went M hw
        have H1 : Hid (SHas W m b St (S.withF (S.F.takeL (dirTo S.d (j + 1)))) A wn G) := h1
        have H2 := hide ((unhide HSM).trans h2)
        clear hw h1 h2 CT3 HH HSM hix
        go_wp2_with fail
        go_ret
        exact ⟨by rw [unhide HF]; rfl, _, unhide hfo, unhide H1, unhide H2, fun q => by rw [unhide HF] at q; cases q⟩
    · have e8 : j = 8 := by omega
      rw [e8] at HH HB
      have HL : Hid (SHas W m b St (S.withF (S.F.takeL (dirTo S.d 8 ++ linesTo S.w 0))) A wr G) := by show SHas _ _ _ _ _ _ _ _; rw [linesTo_zero, List.append_nil]; exact unhide HH
      have HM : Hid (S.F.takesB (dirTo S.d 8 ++ linesTo S.w 0) = true) := by show _ = _; rw [linesTo_zero, List.append_nil]; exact unhide HB
      have RW : Hid (wr.rangeAt b 1027 (tabV S.w).toList) := (unhide HH).rep.rw
      have HX : Hid (∀ (U : World) (j : Nat), j < 49 → Sem.run Try.prog (Instr.index 59 (.agg (tabV S.w)) (.int .i64 (j : Int))) U = .ok (.agg (ev (S.w j))) U) := fun U j hj => by
        rw [← rowE_at 49 S.w j hj]; exact run_index_en _ 49 Try.underlying59 U _ (rowE_len _ _) .i64 j hj
      clear HXD s8' HH HB
      go_upto_region 7 with fail
      clear hlt hj e8
      generalize (j : Int) = last at *
      go_wp2_with (with_reducible refine wpList_load_tab (by with_unfolding_all rfl) _ (by with_unfolding_all rfl) b 1027 (by with_unfolding_all rfl) S.w (unhide RW) ?_)
      clear RW
      go_loopw [6, 25] (fun _ c wr => ∃ j : Nat, j ≤ 49 ∧ c = .int .i64 j ∧ S.F.takesB (dirTo S.d 8 ++ linesTo S.w j) = true ∧ SHas W m b St (S.withF (S.F.takeL (dirTo S.d 8 ++ linesTo S.w j))) A wr G ∧ Same G w wr) (fun _ c _ => 49 - (intOf c).toNat)
      case atStart => exact ⟨0, by omega, rfl, unhide HM, unhide HL, unhide HSM⟩
      case round =>
        clear HL HM HSM
        obtain ⟨j, hj, rfl, hb, hh, hs⟩ := hrel
        have HH := hide hh
        have HB := hide hb
        have HSM := hide hs
        clear hh hb hs
        by_cases hlt : j < 49
        · have hix := fun U => unhide HX U j hlt
          obtain ⟨k, v, l, hx⟩ : ∃ k v l, S.w j = ⟨k, v, l⟩ := ⟨_, _, _, rfl⟩
          have HI := hide (linesTo_in S.w j)
          have HO := hide (linesTo_out S.w j)
          rw [hx] at hix HI HO
          have hi2 : ∀ U : World, Sem.run Try.prog (Instr.index 59 (.agg (tabV S.w)) (.int .i64 (j : Int))) U = .ok (.agg #[.int .i64 k, .int .i64 v, .int .i64 l]) U := hix
          have TA := hide (SHas.stay M b (S.withF (S.F.takeL (dirTo S.d 8 ++ linesTo S.w j))) A)
          have O1 := hide ((Held.start (unhide TA) (unhide HH)).alloc (unhide TA) (.cells #[.int .i64 k, .int .i64 v, .int .i64 l] 23))
          clear hix hx HH
          by_cases hk : k = 0
          · have HE := hide (unhide HO hk)
            subst hk
            clear HI HO
            rw [← unhide HE] at HB O1
            have H1 := hide ((unhide O1).done (SHas.stay M b _ _) (.bool true)).2.1
            have H2 : Hid (Same G w (wr.alloc (.cells #[.int .i64 0, .int .i64 v, .int .i64 l] 23))) := (unhide HSM).trans (unhide O1).2.2
            clear HSM O1 TA HE
            have c0 : (wr.alloc (.cells #[.int .i64 0, .int .i64 v, .int .i64 l] 23)).cell? ⟨wr.heap.size, 0, none⟩ = some (.int .i64 0) := by rw [cell_of_block (heap_new wr _)]; rfl
            go_upto_region 10 with fail
            generalize wr.alloc (.cells #[.int .i64 0, .int .i64 v, .int .i64 l] 23) = wa at *
            go_quiet (fail)
            go_wp2_with fail
            go_roundw
            case rel => exact ⟨j + 1, by omega, by go_num, unhide HB, shas_drewN M (unhide H1) _, unhide H2⟩
            case measure => simp [intOf]; omega
          · have HE := hide (unhide HI hk)
            have hk1 : (k != 0) = true := by simpa using hk
            have fo := hide (takeL_ok (dirTo S.d 8 ++ linesTo S.w j) hS)
            have EA : Hid ((S.F.takeL (dirTo S.d 8 ++ linesTo S.w j)).turnA l 0 1 = S.F.takeL (dirTo S.d 8 ++ linesTo S.w (j + 1))) := by show _ = _; rw [unhide HE, ← List.append_assoc, takeL_snoc]
            obtain ⟨E, hE⟩ : ∃ E, E = (S.F.takeL (dirTo S.d 8 ++ linesTo S.w j)).turnE l 0 := ⟨_, rfl⟩
            have EB : Hid (S.F.takesB (dirTo S.d 8 ++ linesTo S.w (j + 1)) = decide (E = 0)) := by show _ = _; rw [unhide HE, ← List.append_assoc, takesB_snoc, unhide HB, Bool.true_and, hE]
            have CT : Hid (∀ wx, SHas W m b St (S.withF (S.F.takeL (dirTo S.d 8 ++ linesTo S.w j))) A wx (fun k_1 => G k_1 ∨ ∃ o, (k_1, o) ∈ [(wr.heap.size, Obj.cells #[.int .i64 k, .int .i64 v, .int .i64 l] 23)]) → Calls Try.prog 54 #[.pointer (some ⟨b, 1, none⟩), .int .i64 l] wx (SWent m (S.withF (S.F.takeL (dirTo S.d 8 ++ linesTo S.w j))) wx b (S.F.takeL (dirTo S.d 8 ++ linesTo S.w (j + 1))) (.int .i64 E))) := fun wx hx => by
              have := stake_any hx.rep.frs (unhide fo) l
              rw [hE, ← unhide EA]; exact this
            have HF : Hid (E ≠ 0 → S.F.takesB (claimL S.w S.d) = false) := fun hz => by
              have h1 : S.F.takesB (dirTo S.d 8 ++ linesTo S.w (j + 1)) = false := by rw [unhide EB]; simpa using hz
              obtain ⟨r, hr⟩ := linesTo_split S.w (j + 1) (by omega)
              unfold claimL linesL; rw [hr, ← List.append_assoc]; exact takesB_part _ _ _ h1
            have HB2 : Hid (E = 0 → S.F.takesB (dirTo S.d 8 ++ linesTo S.w (j + 1)) = true) := fun hz => by rw [unhide EB, hz]; rfl
            have fo2 := hide (takeL_ok (dirTo S.d 8 ++ linesTo S.w (j + 1)) hS)
            obtain ⟨g, hg⟩ : ∃ g, g = wr.heap.size := ⟨_, rfl⟩
            rw [← hg] at CT O1
            clear HI HO HE hE EA EB fo HB hk
            go_upto_region 10 with fail
            rw [← hg]
            clear hg
            generalize wr.alloc (.cells #[.int .i64 k, .int .i64 v, .int .i64 l] 23) = wa at *
            have O2 := hide ((unhide O1).drew (unhide TA))
            have cg : ∀ (S' : Sto) (wx : World), Held W (SHas W m b St S' A) wr wx G [(g, Obj.cells #[.int .i64 k, .int .i64 v, .int .i64 l] 23)] → wx.cell? ⟨g, 0, none⟩ = some (.int .i64 k) ∧ wx.cell? ⟨g, 2, none⟩ = some (.int .i64 l) := fun S' wx O => by
              have kg := O.at g (.cells #[.int .i64 k, .int .i64 v, .int .i64 l] 23) (by simp)
              exact ⟨by rw [cell_of_block kg]; rfl, by rw [cell_of_block kg]; rfl⟩
            refine wp_region_noPanic ?_
            refine wp_region_held_drew (S := fun w' => w'.cell? ⟨g, 0, none⟩ = some (.int .i64 k) ∧ w'.cell? ⟨g, 2, none⟩ = some (.int .i64 l)) (by kernel_rfl) (cg _ _ (unhide O2)) (fun hHeld => ?_)
            clear O1
            generalize wa.drew = wd at *
            refine take_at 0 28 (v := ?_) rfl rfl (by kernel_rfl) (by kernel_rfl) (by kernel_rfl) (Or.inl ⟨by rfl, ?_⟩) hHeld ?_
            rotate_left
            · intro w hSw; go_simp; with_reducible rfl
            simp only [Act.put, List.setIfInBounds_toArray, List.set_cons_zero, List.set_cons_succ]
            refine take_at 1 29 (v := ?_) rfl rfl (by kernel_rfl) (by kernel_rfl) (by kernel_rfl) (Or.inl ⟨by rfl, ?_⟩) hHeld ?_
            rotate_left
            · intro w hSw; obtain ⟨s1, s2⟩ := hSw; go_simp; with_reducible rfl
            simp only [Act.put, List.setIfInBounds_toArray, List.set_cons_zero, List.set_cons_succ]
            refine take_at 2 30 (v := ?_) rfl rfl (by kernel_rfl) (by kernel_rfl) (by kernel_rfl) (Or.inl ⟨by rfl, ?_⟩) hHeld ?_
            rotate_left
            · intro w hSw; go_simp; with_reducible rfl
            simp only [Act.put, List.setIfInBounds_toArray, List.set_cons_zero, List.set_cons_succ]
            refine take_at 3 31 (v := ?_) rfl rfl (by kernel_rfl) (by kernel_rfl) (by kernel_rfl) (Or.inl ⟨by rfl, ?_⟩) hHeld ?_
            rotate_left
            · intro w hSw; go_simp; with_reducible rfl
            simp only [Act.put, List.setIfInBounds_toArray, List.set_cons_zero, List.set_cons_succ]
            refine take_at 4 32 (v := ?_) rfl rfl (by kernel_rfl) (by kernel_rfl) (by kernel_rfl) (Or.inl ⟨by rfl, ?_⟩) hHeld ?_
            rotate_left
            · intro w hSw; go_simp; with_reducible rfl
            simp only [Act.put, List.setIfInBounds_toArray, List.set_cons_zero, List.set_cons_succ]
            refine take_at 5 33 (v := ?_) rfl rfl (by kernel_rfl) (by kernel_rfl) (by kernel_rfl) (Or.inl ⟨by rfl, ?_⟩) hHeld ?_
            rotate_left
            · intro w hSw; go_simp; with_reducible rfl
            simp only [Act.put, List.setIfInBounds_toArray, List.set_cons_zero, List.set_cons_succ]
            refine take_at 6 34 (v := ?_) rfl rfl (by kernel_rfl) (by kernel_rfl) (by kernel_rfl) (Or.inl ⟨by rfl, ?_⟩) hHeld ?_
            rotate_left
            · intro w hSw; go_simp; with_reducible rfl
            simp only [Act.put, List.setIfInBounds_toArray, List.set_cons_zero, List.set_cons_succ]
            refine take_at 7 35 (v := ?_) rfl rfl (by kernel_rfl) (by kernel_rfl) (by kernel_rfl) (Or.inl ⟨by rfl, ?_⟩) hHeld ?_
            rotate_left
            · intro w hSw; go_simp; with_reducible rfl
            simp only [Act.put, List.setIfInBounds_toArray, List.set_cons_zero, List.set_cons_succ]
            refine take_at 8 36 (v := ?_) rfl rfl (by kernel_rfl) (by kernel_rfl) (by kernel_rfl) (Or.inl ⟨by rfl, ?_⟩) hHeld ?_
            rotate_left
            · intro w hSw; obtain ⟨s1, s2⟩ := hSw; go_simp; with_reducible rfl
            simp only [Act.put, List.setIfInBounds_toArray, List.set_cons_zero, List.set_cons_succ]
            refine wpAnyH_ready (rs := [9]) (by kernel_rfl) (by simp) ?_
            refine AllReadyH.cons rfl (fun K hK => ?_) AllReadyH.nil
            refine (if_pos (by rfl)).mpr ?_
            go_simp
            refine (unhide CT _ (unhide O2).st).mono ?_
            intro e wn hw
            obtain ⟨rfl, h1, h2⟩ := (unhide O2).st.went M hw
            have O3 := hide ((unhide O2).call (St' := SHas W m b St (S.withF (S.F.takeL (dirTo S.d 8 ++ linesTo S.w (j + 1)))) A) h1 h2)
            go_wp2_with fail
            clear hHeld
            refine hK.out _ _ (cg _ _ (unhide O3)) (fun hNew => ?_)
            have hHeld := hNew
            clear hK K hNew h1 h2 hw O2 TA CT
            refine take_at 10 38 (v := ?_) rfl rfl (by kernel_rfl) (by kernel_rfl) (by kernel_rfl) (Or.inl ⟨by rfl, ?_⟩) hHeld ?_
            rotate_left
            · intro w hSw; go_simp; with_reducible rfl
            simp only [Act.put, List.setIfInBounds_toArray, List.set_cons_zero, List.set_cons_succ]
            refine take_at 11 39 (v := ?_) rfl rfl (by kernel_rfl) (by kernel_rfl) (by kernel_rfl) (Or.inl ⟨by rfl, ?_⟩) hHeld ?_
            rotate_left
            · intro w hSw; go_simp; with_reducible rfl
            simp only [Act.put, List.setIfInBounds_toArray, List.set_cons_zero, List.set_cons_succ]
            refine wpAnyH_done (by kernel_rfl) ?_ _
            refine NoPanic.normal ?_
            have H1 := hide ((unhide O3).done (SHas.stay M b _ _) (.bool true)).2.1
            have H2 := hide ((unhide HSM).trans (unhide O3).2.2)
            clear hHeld O3 HSM cg hi2
            by_cases hz : E = 0
            · have hEb : (E != 0) = false := by simpa using hz
              have HB3 := hide (unhide HB2 hz)
              clear hz
              go_wp2_with fail
              go_roundw
              case rel => exact ⟨j + 1, by omega, by go_num, unhide HB3, unhide H1, unhide H2⟩
              case measure => simp [intOf]; omega
            · have hEb : (E != 0) = true := by simpa using hz
              have HF2 := hide (unhide HF hz)
              clear hz
              go_wp2_with fail
              go_ret
              exact ⟨by rw [unhide HF2]; rfl, _, unhide fo2, unhide H1, unhide H2, fun q => by rw [unhide HF2] at q; cases q⟩
        · obtain rfl : j = 49 := by omega
          have fo := hide (takeL_ok (dirTo S.d 8 ++ linesTo S.w 49) hS)
          go_wp2_with fail
          go_ret
          exact ⟨by rw [show S.F.takesB (claimL S.w S.d) = true from unhide HB]; rfl, _, unhide fo, unhide HH, unhide HSM, fun _ => rfl⟩

end Go.Proofs.Ytjmgmbigbkllgaa
