
/-
  The document's Names.
-/
import Derived.Test.YtinhnnnehhlceaaGreatKCapR
import Derived.Test.YtinhnnnehhlceaaGreatYHas
namespace Go.Proofs.YtinhnnnehhlceaaGreat
open Go.ChangeShapes Go.WideShapes Go.ChangeAt Go.RowKit Go.Joins
set_option maxRecDepth 10000
set_option linter.unusedVariables false
set_option linter.unusedSimpArgs false

set_option maxHeartbeats 4000000 in
theorem ynames_any {z y f : Nat} {S : Sto} {K : Nat → En} {w : World} (h : YRep z f S K w y) (c : Int) (h0 : 0 ≤ c) (h1 : c ≤ 18446744073709551615) :
    Calls Tryz.prog 60 #[.pointer (some ⟨y, 0, none⟩), .int .u64 c] w fun e w' => e = .returned (.tuple #[.int .i64 (S.nameI c), .int .i64 (S.nameE c)]) ∧ Below w.heap.size w w' := by
  have O := hide (rcapOf_any c h0 h1)
  cases hC : isC c with
  | false =>
    have eE : S.nameE c = 31 := by simp [Sto.nameE, hC]
    have eI : S.nameI c = 0 := by simp [Sto.nameI, eE]
    rw [eE, eI]
    rw [hC, ofV_not c hC] at O
    clear hC eE eI h
    have nC := cv_new zc 179
    have zC := cv_size zc
    generalize cv zc = Z at *
    go_enter Tryz.func60, Tryz.ntmps60
    go_wp2_with fail
    refine (unhide O _).mono ?_
    rintro e w1 ⟨rfl, hb⟩
    have Hb := hide (((Own.start w).call hb).alloc (.cells Z 179))
    clear hb O
    go_wp2_with fail
    go_ret2
    exact ⟨rfl, (unhide Hb).below⟩
  | true =>
    rw [hC, ofV_is c hC] at O
    have eE : S.nameE c = namE (S.w (ofC c).i.toNat) (ofC c).i c := by simp [Sto.nameE, hC]
    have eI : S.nameI c = if namE (S.w (ofC c).i.toNat) (ofC c).i c = 0 then (ofC c).i else 0 := by simp [Sto.nameI, eE]
    rw [eE, eI]
    have hm := (mayC_iff _).1 (show mayC (ofC c) = true from hC)
    clear hC eE eI
    obtain ⟨a, r, d, u, zq, hc⟩ : ∃ a r d u b, ofC c = ⟨a, r, d, u, b⟩ := ⟨_, _, _, _, _, rfl⟩
    rw [hc] at O hm ⊢
    clear hc
    obtain ⟨i, rfl⟩ : ∃ i : Nat, d = (i : Int) := ⟨d.toNat, (Int.toNat_of_nonneg hm.2.2.2.2.1).symm⟩
    have hi : i < 49 := by have := hm.2.2.2.2.2.1; simp at this; omega
    simp only [Int.toNat_natCast]
    clear hm
    have CN := hide (fun W => rnames_any (S.w i) (i : Int) c h0 h1 W)
    have RE : Hid (∀ w', Below w.heap.size w w' → w'.rangeAt y (2 + i * 3) (ev (S.w i)).toList) := fun w' hb => (h.keeps (F := fun _ => False) (Keeps.of_below hb) id).en i hi
    generalize namE (S.w i) (i : Int) c = E at *
    obtain ⟨X, hX⟩ : ∃ X, X = S.w i := ⟨_, rfl⟩
    rw [← hX] at CN RE
    clear hX h h0 h1
    have s3 : (Tryz.prog.info? 41).map (·.size) = some (ev X).toList.length := size3
    have KC : Hid (∀ w' g, Own w w' [(g, .cells (cv ⟨a, r, (i : Int), u, zq⟩) 179)] → w'.cell? ⟨g, 2, none⟩ = some (.int .i64 (i : Int))) := fun w' g h => by rw [cell_of_block (h.at g (.cells (cv ⟨a, r, (i : Int), u, zq⟩) 179) (by simp))]; rfl
    have nC := cv_new ⟨a, r, (i : Int), u, zq⟩ 179
    have zC := cv_size ⟨a, r, (i : Int), u, zq⟩
    generalize cv ⟨a, r, (i : Int), u, zq⟩ = Z at *
    by_cases hE : E = 0
    · rw [if_pos hE]
      subst hE
      go_enter Tryz.func60, Tryz.ntmps60
      go_wp2_with fail
      refine (unhide O _).mono ?_
      rintro e w1 ⟨rfl, hb⟩
      have O1 := hide (((Own.start w).call hb).alloc (.cells Z 179))
      clear hb O
      go_upto_region 4 with fail
      obtain ⟨g, hg⟩ : ∃ g, g = w1.heap.size := ⟨_, rfl⟩
      rw [← hg] at O1 ⊢
      clear hg
      generalize w1.alloc (.cells Z 179) = w2 at *
      have HS := (unhide O1).drew
      clear O1
      refine wp_region_noPanic ?_
      refine wp_region_held_drew (S := fun w' => Own w w' [(g, .cells Z 179)]) (by kernel_rfl) HS (fun hHeld => ?_)
      clear HS
      refine take_at 0 16 (v := ?_) rfl rfl (by kernel_rfl) (by kernel_rfl) (by kernel_rfl) (Or.inl ⟨by rfl, ?_⟩) hHeld ?_
      rotate_left
      · intro w hSw; go_simp; with_reducible rfl
      simp only [Act.put, List.setIfInBounds_toArray, List.set_cons_zero, List.set_cons_succ]
      refine take_at 1 17 (v := ?_) rfl rfl (by kernel_rfl) (by kernel_rfl) (by kernel_rfl) (Or.inl ⟨by rfl, ?_⟩) hHeld ?_
      rotate_left
      · intro w hSw; go_simp; with_reducible rfl
      simp only [Act.put, List.setIfInBounds_toArray, List.set_cons_zero, List.set_cons_succ]
      refine take_at 2 18 (v := ?_) rfl rfl (by kernel_rfl) (by kernel_rfl) (by kernel_rfl) (Or.inl ⟨by rfl, ?_⟩) hHeld ?_
      rotate_left
      · intro w hSw; have c2 := unhide KC _ _ hSw; go_simp; with_reducible rfl
      simp only [Act.put, List.setIfInBounds_toArray, List.set_cons_zero, List.set_cons_succ]
      refine take_at 3 19 (v := ?_) rfl rfl (by kernel_rfl) (by kernel_rfl) (by kernel_rfl) (Or.inl ⟨by rfl, ?_⟩) hHeld ?_
      rotate_left
      · intro w hSw; go_simp; with_reducible rfl
      simp only [Act.put, List.setIfInBounds_toArray, List.set_cons_zero, List.set_cons_succ]
      refine take_at 4 20 (v := ?_) rfl rfl (by kernel_rfl) (by kernel_rfl) (by kernel_rfl) (Or.inl ⟨by rfl, ?_⟩) hHeld ?_
      rotate_left
      · intro w hSw; go_simp; with_reducible rfl
      simp only [Act.put, List.setIfInBounds_toArray, List.set_cons_zero, List.set_cons_succ]
      refine take_at 5 21 (v := .pointer (some ⟨y, 2 + i * 3, none⟩)) rfl rfl (by kernel_rfl) (by kernel_rfl) (by kernel_rfl) (Or.inl ⟨by rfl, ?_⟩) hHeld ?_
      · intro w hSw; have hi1 : (i : Int) < 49 := by omega
        first | (go_simp; done) | (go_simp; rfl)
      simp only [Act.put, List.setIfInBounds_toArray, List.set_cons_zero, List.set_cons_succ]
      refine take_at 6 22 rfl rfl (by kernel_rfl) (by kernel_rfl) (by kernel_rfl) (yieldsIf_load_mid (by rfl) 41 _ rfl y (2 + i * 3) rfl (ev X).toList _ (fun w' h => unhide RE w' h.below) Tryz.underlying41 rfl s3) hHeld ?_
      simp only [Act.put, List.setIfInBounds_toArray, List.set_cons_zero, List.set_cons_succ]
      refine take_at 7 23 (v := ?_) rfl rfl (by kernel_rfl) (by kernel_rfl) (by kernel_rfl) (Or.inl ⟨by rfl, ?_⟩) hHeld ?_
      rotate_left
      · intro w hSw; go_simp; with_reducible rfl
      simp only [Act.put, List.setIfInBounds_toArray, List.set_cons_zero, List.set_cons_succ]
      refine take_at 8 24 (v := ?_) rfl rfl (by kernel_rfl) (by kernel_rfl) (by kernel_rfl) (Or.inl ⟨by rfl, ?_⟩) hHeld ?_
      rotate_left
      · intro w hSw; have c2 := unhide KC _ _ hSw; go_simp; with_reducible rfl
      simp only [Act.put, List.setIfInBounds_toArray, List.set_cons_zero, List.set_cons_succ]
      refine take_at 9 25 (v := ?_) rfl rfl (by kernel_rfl) (by kernel_rfl) (by kernel_rfl) (Or.inl ⟨by rfl, ?_⟩) hHeld ?_
      rotate_left
      · intro w hSw; go_simp; with_reducible rfl
      simp only [Act.put, List.setIfInBounds_toArray, List.set_cons_zero, List.set_cons_succ]
      refine wpAnyH_ready (rs := [10]) (by kernel_rfl) (by simp) ?_
      refine AllReadyH.cons rfl (fun K hK => ?_) AllReadyH.nil
      go_simp
      refine (unhide CN _).mono ?_
      rintro e w' ⟨rfl, hbx⟩
      go_wp2_with fail
      refine hK.out _ _ (hHeld.call hbx) (fun hNew => ?_)
      clear hK K hHeld hbx
      have hHeld := hNew
      clear hNew
      refine take_at 11 8 (v := ?_) rfl rfl (by kernel_rfl) (by kernel_rfl) (by kernel_rfl) (Or.inl ⟨by rfl, ?_⟩) hHeld ?_
      rotate_left
      · intro w hSw; go_simp; with_reducible rfl
      simp only [Act.put, List.setIfInBounds_toArray, List.set_cons_zero, List.set_cons_succ]
      refine wpAnyH_done (by kernel_rfl) ?_ _
      refine NoPanic.normal ?_
      have c2 := unhide KC _ _ hHeld
      go_wp2_with fail
      go_ret2
      exact ⟨rfl, hHeld.below⟩
    · rw [if_neg hE]
      have hE1 : (E != 0) = true := by simpa using hE
      clear hE
      go_enter Tryz.func60, Tryz.ntmps60
      go_wp2_with fail
      refine (unhide O _).mono ?_
      rintro e w1 ⟨rfl, hb⟩
      have O1 := hide (((Own.start w).call hb).alloc (.cells Z 179))
      clear hb O
      go_upto_region 4 with fail
      obtain ⟨g, hg⟩ : ∃ g, g = w1.heap.size := ⟨_, rfl⟩
      rw [← hg] at O1 ⊢
      clear hg
      generalize w1.alloc (.cells Z 179) = w2 at *
      have HS := (unhide O1).drew
      clear O1
      refine wp_region_noPanic ?_
      refine wp_region_held_drew (S := fun w' => Own w w' [(g, .cells Z 179)]) (by kernel_rfl) HS (fun hHeld => ?_)
      clear HS
      refine take_at 0 16 (v := ?_) rfl rfl (by kernel_rfl) (by kernel_rfl) (by kernel_rfl) (Or.inl ⟨by rfl, ?_⟩) hHeld ?_
      rotate_left
      · intro w hSw; go_simp; with_reducible rfl
      simp only [Act.put, List.setIfInBounds_toArray, List.set_cons_zero, List.set_cons_succ]
      refine take_at 1 17 (v := ?_) rfl rfl (by kernel_rfl) (by kernel_rfl) (by kernel_rfl) (Or.inl ⟨by rfl, ?_⟩) hHeld ?_
      rotate_left
      · intro w hSw; go_simp; with_reducible rfl
      simp only [Act.put, List.setIfInBounds_toArray, List.set_cons_zero, List.set_cons_succ]
      refine take_at 2 18 (v := ?_) rfl rfl (by kernel_rfl) (by kernel_rfl) (by kernel_rfl) (Or.inl ⟨by rfl, ?_⟩) hHeld ?_
      rotate_left
      · intro w hSw; have c2 := unhide KC _ _ hSw; go_simp; with_reducible rfl
      simp only [Act.put, List.setIfInBounds_toArray, List.set_cons_zero, List.set_cons_succ]
      refine take_at 3 19 (v := ?_) rfl rfl (by kernel_rfl) (by kernel_rfl) (by kernel_rfl) (Or.inl ⟨by rfl, ?_⟩) hHeld ?_
      rotate_left
      · intro w hSw; go_simp; with_reducible rfl
      simp only [Act.put, List.setIfInBounds_toArray, List.set_cons_zero, List.set_cons_succ]
      refine take_at 4 20 (v := ?_) rfl rfl (by kernel_rfl) (by kernel_rfl) (by kernel_rfl) (Or.inl ⟨by rfl, ?_⟩) hHeld ?_
      rotate_left
      · intro w hSw; go_simp; with_reducible rfl
      simp only [Act.put, List.setIfInBounds_toArray, List.set_cons_zero, List.set_cons_succ]
      refine take_at 5 21 (v := .pointer (some ⟨y, 2 + i * 3, none⟩)) rfl rfl (by kernel_rfl) (by kernel_rfl) (by kernel_rfl) (Or.inl ⟨by rfl, ?_⟩) hHeld ?_
      · intro w hSw; have hi1 : (i : Int) < 49 := by omega
        first | (go_simp; done) | (go_simp; rfl)
      simp only [Act.put, List.setIfInBounds_toArray, List.set_cons_zero, List.set_cons_succ]
      refine take_at 6 22 rfl rfl (by kernel_rfl) (by kernel_rfl) (by kernel_rfl) (yieldsIf_load_mid (by rfl) 41 _ rfl y (2 + i * 3) rfl (ev X).toList _ (fun w' h => unhide RE w' h.below) Tryz.underlying41 rfl s3) hHeld ?_
      simp only [Act.put, List.setIfInBounds_toArray, List.set_cons_zero, List.set_cons_succ]
      refine take_at 7 23 (v := ?_) rfl rfl (by kernel_rfl) (by kernel_rfl) (by kernel_rfl) (Or.inl ⟨by rfl, ?_⟩) hHeld ?_
      rotate_left
      · intro w hSw; go_simp; with_reducible rfl
      simp only [Act.put, List.setIfInBounds_toArray, List.set_cons_zero, List.set_cons_succ]
      refine take_at 8 24 (v := ?_) rfl rfl (by kernel_rfl) (by kernel_rfl) (by kernel_rfl) (Or.inl ⟨by rfl, ?_⟩) hHeld ?_
      rotate_left
      · intro w hSw; have c2 := unhide KC _ _ hSw; go_simp; with_reducible rfl
      simp only [Act.put, List.setIfInBounds_toArray, List.set_cons_zero, List.set_cons_succ]
      refine take_at 9 25 (v := ?_) rfl rfl (by kernel_rfl) (by kernel_rfl) (by kernel_rfl) (Or.inl ⟨by rfl, ?_⟩) hHeld ?_
      rotate_left
      · intro w hSw; go_simp; with_reducible rfl
      simp only [Act.put, List.setIfInBounds_toArray, List.set_cons_zero, List.set_cons_succ]
      refine wpAnyH_ready (rs := [10]) (by kernel_rfl) (by simp) ?_
      refine AllReadyH.cons rfl (fun K hK => ?_) AllReadyH.nil
      go_simp
      refine (unhide CN _).mono ?_
      rintro e w' ⟨rfl, hbx⟩
      go_wp2_with fail
      refine hK.out _ _ (hHeld.call hbx) (fun hNew => ?_)
      clear hK K hHeld hbx
      have hHeld := hNew
      clear hNew
      refine take_at 11 8 (v := ?_) rfl rfl (by kernel_rfl) (by kernel_rfl) (by kernel_rfl) (Or.inl ⟨by rfl, ?_⟩) hHeld ?_
      rotate_left
      · intro w hSw; go_simp; with_reducible rfl
      simp only [Act.put, List.setIfInBounds_toArray, List.set_cons_zero, List.set_cons_succ]
      refine wpAnyH_done (by kernel_rfl) ?_ _
      refine NoPanic.normal ?_
      go_wp2_with fail
      go_ret2
      exact ⟨rfl, hHeld.below⟩

end Go.Proofs.YtinhnnnehhlceaaGreat
