
/-
  The store's Names: which object a capability's word is; nothing turns.
-/
import Derived.Test.YtjmgmbigbkllgabOFind
import Derived.Test.YtjmgmbigbkllgabKCaps
import Derived.Test.YtjmgmbigbkllgabECalls
namespace Go.Proofs.Ytjmgmbigbkllgab
open Go.ChangeShapes Go.WideShapes Go.ChangeAt Go.RowKit Go.Joins
set_option maxRecDepth 10000
set_option linter.unusedVariables false
set_option linter.unusedSimpArgs false

set_option maxHeartbeats 4000000 in
theorem names3 (k v l i c : Int) (h0 : 0 ≤ c) (h1 : c ≤ 18446744073709551615) (w : World) : Calls Try.prog 27 #[.agg #[.int .i64 k, .int .i64 v, .int .i64 l], .int .i64 i, .int .u64 c] w fun e w' => e = .returned (.int .i64 (namE ⟨k, v, l⟩ i c)) ∧ Below w.heap.size w w' := by
  have O := hide (capOf_any c h0 h1)
  cases hC : isC c with
  | false =>
    have eE : namE ⟨k, v, l⟩ i c = 31 := by simp [namE, hC]
    rw [eE]
    rw [hC, ofV_not c hC] at O
    clear hC eE
    have nC := cv_new zc 51
    have zC := cv_size zc
    generalize cv zc = Z at *
    go_enter Try.func27, Try.ntmps27
    go_wp2_with fail
    refine (unhide O _).mono ?_
    rintro e w1 ⟨rfl, hb⟩
    have Hb := hide ((((Below.refl _ w).alloc (Nat.le_refl _) (.cells #[.int .i64 k, .int .i64 v, .int .i64 l] 31)).trans (hb.mono (by simp))))
    have hs : w.heap.size < w1.heap.size := by have := hb.size; simp at this; omega
    have Kx := hide ((hb.block w.heap.size (by simp)).trans (heap_new w _))
    have x0 : w1.cell? ⟨w.heap.size, 0, none⟩ = some (.int .i64 k) := by rw [cell_of_block (unhide Kx)]; rfl
    have x1 : w1.cell? ⟨w.heap.size, 1, none⟩ = some (.int .i64 v) := by rw [cell_of_block (unhide Kx)]; rfl
    clear hb Kx
    go_wp2_with fail
    go_ret
    exact ⟨rfl, (unhide Hb).alloc (unhide Hb).size _⟩
  | true =>
    rw [hC, ofV_is c hC] at O
    obtain ⟨a, r, d, u, b, hc⟩ : ∃ a r d u b, ofC c = ⟨a, r, d, u, b⟩ := ⟨_, _, _, _, _, rfl⟩
    have HE : Hid (namE ⟨k, v, l⟩ i c = if a ≠ 5 ∧ a ≠ 6 then (if d = i then (if u = v then (if k = 0 then 30 else if a = k then 0 else 31) else 33) else 30) else 31) := by
      show _ = _
      unfold namE
      rw [hC, hc]
      simp
    rw [unhide HE]
    rw [hc, show (cv ⟨a, r, d, u, b⟩) = #[.int .i64 a, .int .i64 r, .int .i64 d, .int .i64 u, .int .i64 b] from rfl] at O
    clear HE hC hc
    by_cases h5 : a = 5
    · rw [if_neg (by simp [h5])]
      subst h5
      go_enter Try.func27, Try.ntmps27
      go_wp2_with fail
      refine (unhide O _).mono ?_
      rintro e w1 ⟨rfl, hb⟩
      have Hb := hide ((((Below.refl _ w).alloc (Nat.le_refl _) (.cells #[.int .i64 k, .int .i64 v, .int .i64 l] 31)).trans (hb.mono (by simp))))
      have hs : w.heap.size < w1.heap.size := by have := hb.size; simp at this; omega
      have Kx := hide ((hb.block w.heap.size (by simp)).trans (heap_new w _))
      have x0 : w1.cell? ⟨w.heap.size, 0, none⟩ = some (.int .i64 k) := by rw [cell_of_block (unhide Kx)]; rfl
      have x1 : w1.cell? ⟨w.heap.size, 1, none⟩ = some (.int .i64 v) := by rw [cell_of_block (unhide Kx)]; rfl
      clear hb Kx
      go_wp2_with fail
      go_ret
      exact ⟨rfl, (unhide Hb).alloc (unhide Hb).size _⟩
    by_cases h6 : a = 6
    · rw [if_neg (by simp [h6])]
      subst h6
      go_enter Try.func27, Try.ntmps27
      go_wp2_with fail
      refine (unhide O _).mono ?_
      rintro e w1 ⟨rfl, hb⟩
      have Hb := hide ((((Below.refl _ w).alloc (Nat.le_refl _) (.cells #[.int .i64 k, .int .i64 v, .int .i64 l] 31)).trans (hb.mono (by simp))))
      have hs : w.heap.size < w1.heap.size := by have := hb.size; simp at this; omega
      have Kx := hide ((hb.block w.heap.size (by simp)).trans (heap_new w _))
      have x0 : w1.cell? ⟨w.heap.size, 0, none⟩ = some (.int .i64 k) := by rw [cell_of_block (unhide Kx)]; rfl
      have x1 : w1.cell? ⟨w.heap.size, 1, none⟩ = some (.int .i64 v) := by rw [cell_of_block (unhide Kx)]; rfl
      clear hb Kx
      go_wp2_with fail
      go_ret
      exact ⟨rfl, (unhide Hb).alloc (unhide Hb).size _⟩
    rw [if_pos ⟨h5, h6⟩]
    have h5' : (a == 5) = false := by simpa using h5
    have h6' : (a == 6) = false := by simpa using h6
    clear h5 h6
    by_cases hd : d = i
    · rw [if_pos hd]
      have hd' : (d != i) = false := by simpa using hd
      clear hd
      by_cases hu : u = v
      · rw [if_pos hu]
        have hu' : (u != v) = false := by simpa using hu
        clear hu
        by_cases hk : k = 0
        · rw [if_pos hk]
          have hk' : (k == 0) = true := by simpa using hk
          clear hk
          go_enter Try.func27, Try.ntmps27
          go_wp2_with fail
          refine (unhide O _).mono ?_
          rintro e w1 ⟨rfl, hb⟩
          have Hb := hide ((((Below.refl _ w).alloc (Nat.le_refl _) (.cells #[.int .i64 k, .int .i64 v, .int .i64 l] 31)).trans (hb.mono (by simp))))
          have hs : w.heap.size < w1.heap.size := by have := hb.size; simp at this; omega
          have Kx := hide ((hb.block w.heap.size (by simp)).trans (heap_new w _))
          have x0 : w1.cell? ⟨w.heap.size, 0, none⟩ = some (.int .i64 k) := by rw [cell_of_block (unhide Kx)]; rfl
          have x1 : w1.cell? ⟨w.heap.size, 1, none⟩ = some (.int .i64 v) := by rw [cell_of_block (unhide Kx)]; rfl
          clear hb Kx
          go_wp2_with fail
          go_ret
          exact ⟨rfl, (unhide Hb).alloc (unhide Hb).size _⟩
        · rw [if_neg hk]
          have hk' : (k == 0) = false := by simpa using hk
          clear hk
          by_cases ha : a = k
          · rw [if_pos ha]
            have ha' : (a != k) = false := by simpa using ha
            clear ha
            go_enter Try.func27, Try.ntmps27
            go_wp2_with fail
            refine (unhide O _).mono ?_
            rintro e w1 ⟨rfl, hb⟩
            have Hb := hide ((((Below.refl _ w).alloc (Nat.le_refl _) (.cells #[.int .i64 k, .int .i64 v, .int .i64 l] 31)).trans (hb.mono (by simp))))
            have hs : w.heap.size < w1.heap.size := by have := hb.size; simp at this; omega
            have Kx := hide ((hb.block w.heap.size (by simp)).trans (heap_new w _))
            have x0 : w1.cell? ⟨w.heap.size, 0, none⟩ = some (.int .i64 k) := by rw [cell_of_block (unhide Kx)]; rfl
            have x1 : w1.cell? ⟨w.heap.size, 1, none⟩ = some (.int .i64 v) := by rw [cell_of_block (unhide Kx)]; rfl
            clear hb Kx
            go_wp2_with fail
            go_ret
            exact ⟨rfl, (unhide Hb).alloc (unhide Hb).size _⟩
          · rw [if_neg ha]
            have ha' : (a != k) = true := by simpa using ha
            clear ha
            go_enter Try.func27, Try.ntmps27
            go_wp2_with fail
            refine (unhide O _).mono ?_
            rintro e w1 ⟨rfl, hb⟩
            have Hb := hide ((((Below.refl _ w).alloc (Nat.le_refl _) (.cells #[.int .i64 k, .int .i64 v, .int .i64 l] 31)).trans (hb.mono (by simp))))
            have hs : w.heap.size < w1.heap.size := by have := hb.size; simp at this; omega
            have Kx := hide ((hb.block w.heap.size (by simp)).trans (heap_new w _))
            have x0 : w1.cell? ⟨w.heap.size, 0, none⟩ = some (.int .i64 k) := by rw [cell_of_block (unhide Kx)]; rfl
            have x1 : w1.cell? ⟨w.heap.size, 1, none⟩ = some (.int .i64 v) := by rw [cell_of_block (unhide Kx)]; rfl
            clear hb Kx
            go_wp2_with fail
            go_ret
            exact ⟨rfl, (unhide Hb).alloc (unhide Hb).size _⟩
      · rw [if_neg hu]
        have hu' : (u != v) = true := by simpa using hu
        clear hu
        go_enter Try.func27, Try.ntmps27
        go_wp2_with fail
        refine (unhide O _).mono ?_
        rintro e w1 ⟨rfl, hb⟩
        have Hb := hide ((((Below.refl _ w).alloc (Nat.le_refl _) (.cells #[.int .i64 k, .int .i64 v, .int .i64 l] 31)).trans (hb.mono (by simp))))
        have hs : w.heap.size < w1.heap.size := by have := hb.size; simp at this; omega
        have Kx := hide ((hb.block w.heap.size (by simp)).trans (heap_new w _))
        have x0 : w1.cell? ⟨w.heap.size, 0, none⟩ = some (.int .i64 k) := by rw [cell_of_block (unhide Kx)]; rfl
        have x1 : w1.cell? ⟨w.heap.size, 1, none⟩ = some (.int .i64 v) := by rw [cell_of_block (unhide Kx)]; rfl
        clear hb Kx
        go_wp2_with fail
        go_ret
        exact ⟨rfl, (unhide Hb).alloc (unhide Hb).size _⟩
    · rw [if_neg hd]
      have hd' : (d != i) = true := by simpa using hd
      clear hd
      go_enter Try.func27, Try.ntmps27
      go_wp2_with fail
      refine (unhide O _).mono ?_
      rintro e w1 ⟨rfl, hb⟩
      have Hb := hide ((((Below.refl _ w).alloc (Nat.le_refl _) (.cells #[.int .i64 k, .int .i64 v, .int .i64 l] 31)).trans (hb.mono (by simp))))
      have hs : w.heap.size < w1.heap.size := by have := hb.size; simp at this; omega
      have Kx := hide ((hb.block w.heap.size (by simp)).trans (heap_new w _))
      have x0 : w1.cell? ⟨w.heap.size, 0, none⟩ = some (.int .i64 k) := by rw [cell_of_block (unhide Kx)]; rfl
      have x1 : w1.cell? ⟨w.heap.size, 1, none⟩ = some (.int .i64 v) := by rw [cell_of_block (unhide Kx)]; rfl
      clear hb Kx
      go_wp2_with fail
      go_ret
      exact ⟨rfl, (unhide Hb).alloc (unhide Hb).size _⟩
theorem names_any (x : En) (i c : Int) (h0 : 0 ≤ c) (h1 : c ≤ 18446744073709551615) (w : World) : Calls Try.prog 27 #[.agg (ev x), .int .i64 i, .int .u64 c] w fun e w' => e = .returned (.int .i64 (namE x i c)) ∧ Below w.heap.size w w' := names3 x.k x.v x.l i c h0 h1 w

def Sto.nameE (S : Sto) (c : Int) : Int := if isC c = true then namE (S.w (ofC c).i.toNat) (ofC c).i c else 31
def Sto.nameI (S : Sto) (c : Int) : Int := if S.nameE c = 0 then (ofC c).i else 0
set_option maxHeartbeats 4000000 in
theorem onames_any {m : Nat} {S : Sto} {w : World} {b : Nat} (h : SRep m S w b) (c : Int) (h0 : 0 ≤ c) (h1 : c ≤ 18446744073709551615) :
    Calls Try.prog 12 #[.pointer (some ⟨b, 0, none⟩), .int .u64 c] w fun e w' => e = .returned (.tuple #[.int .i64 (S.nameI c), .int .i64 (S.nameE c)]) ∧ Below w.heap.size w w' := by
  have O := hide (capOf_any c h0 h1)
  cases hC : isC c with
  | false =>
    have eE : S.nameE c = 31 := by simp [Sto.nameE, hC]
    have eI : S.nameI c = 0 := by simp [Sto.nameI, eE]
    rw [eE, eI]
    rw [hC, ofV_not c hC] at O
    clear hC eE eI h
    have nC := cv_new zc 51
    have zC := cv_size zc
    generalize cv zc = Z at *
    go_enter Try.func12, Try.ntmps12
    go_wp2_with fail
    refine (unhide O _).mono ?_
    rintro e w1 ⟨rfl, hb⟩
    have Hb := hide (((Own.start w).call hb).alloc (.cells Z 51))
    clear hb O
    go_wp2_with fail
    go_ret2
    exact ⟨rfl, (unhide Hb).below⟩
  | true =>
    rw [hC, ofV_is c hC] at O
    have eE : S.nameE c = namE (S.w (ofC c).i.toNat) (ofC c).i c := by simp [Sto.nameE, hC]
    have eI : S.nameI c = if namE (S.w (ofC c).i.toNat) (ofC c).i c = 0 then (ofC c).i else 0 := by simp [Sto.nameI, eE]
    rw [eE, eI]
    have hm := (mayC_iff _).1 (show mayC (ofC c) = true from hC)
    clear hC eE eI
    obtain ⟨a, r, d, u, z, hc⟩ : ∃ a r d u b, ofC c = ⟨a, r, d, u, b⟩ := ⟨_, _, _, _, _, rfl⟩
    rw [hc] at O hm ⊢
    clear hc
    obtain ⟨i, rfl⟩ : ∃ i : Nat, d = (i : Int) := ⟨d.toNat, (Int.toNat_of_nonneg hm.2.2.2.2.1).symm⟩
    have hi : i < 49 := by have := hm.2.2.2.2.2.1; simp at this; omega
    simp only [Int.toNat_natCast]
    clear hm
    have CN := hide (fun W => names_any (S.w i) (i : Int) c h0 h1 W)
    have RE : Hid (∀ w', Below w.heap.size w w' → w'.rangeAt b (1027 + i * 3) (ev (S.w i)).toList) := fun w' hb => (h.below hb).en i hi
    generalize namE (S.w i) (i : Int) c = E at *
    obtain ⟨X, hX⟩ : ∃ X, X = S.w i := ⟨_, rfl⟩
    rw [← hX] at CN RE
    clear hX h h0 h1
    have s3 : (Try.prog.info? 31).map (·.size) = some (ev X).toList.length := size3
    have KC : Hid (∀ w' g, Own w w' [(g, .cells (cv ⟨a, r, (i : Int), u, z⟩) 51)] → w'.cell? ⟨g, 2, none⟩ = some (.int .i64 (i : Int))) := fun w' g h => by rw [cell_of_block (h.at g (.cells (cv ⟨a, r, (i : Int), u, z⟩) 51) (by simp))]; rfl
    have nC := cv_new ⟨a, r, (i : Int), u, z⟩ 51
    have zC := cv_size ⟨a, r, (i : Int), u, z⟩
    generalize cv ⟨a, r, (i : Int), u, z⟩ = Z at *
    by_cases hE : E = 0
    · rw [if_pos hE]
      subst hE
      go_enter Try.func12, Try.ntmps12
      go_wp2_with fail
      refine (unhide O _).mono ?_
      rintro e w1 ⟨rfl, hb⟩
      have O1 := hide (((Own.start w).call hb).alloc (.cells Z 51))
      clear hb O
      go_upto_region 4 with fail
      obtain ⟨g, hg⟩ : ∃ g, g = w1.heap.size := ⟨_, rfl⟩
      rw [← hg] at O1 ⊢
      clear hg
      generalize w1.alloc (.cells Z 51) = w2 at *
      have HS := (unhide O1).drew
      clear O1
      refine wp_region_noPanic ?_
      refine wp_region_held_drew (S := fun w' => Own w w' [(g, .cells Z 51)]) (by kernel_rfl) HS (fun hHeld => ?_)
      clear HS
      refine take_at 0 16 (v := ?_) rfl rfl (by kernel_rfl) (by kernel_rfl) (by kernel_rfl) (Or.inl ⟨by rfl, ?_⟩) hHeld ?_
      rotate_left
      · intro w hSw; go_simp; with_reducible rfl
      simp only [Act.put, List.setIfInBounds_toArray, List.set_cons_zero, List.set_cons_succ]
      refine take_at 1 17 (v := ?_) rfl rfl (by kernel_rfl) (by kernel_rfl) (by kernel_rfl) (Or.inl ⟨by rfl, ?_⟩) hHeld ?_
      rotate_left
      · intro w hSw; go_simp; with_reducible rfl
      simp only [Act.put, List.setIfInBounds_toArray, List.set_cons_zero, List.set_cons_succ]
      refine take_at 2 18 (v := ?_) rfl rfl (by kernel_rfl) (by kernel_rfl) (by kernel_rfl) (Or.inl ⟨by rfl, ?_⟩) hHeld ?_
      rotate_left
      · intro w hSw; have c2 := unhide KC _ _ hSw; go_simp; with_reducible rfl
      simp only [Act.put, List.setIfInBounds_toArray, List.set_cons_zero, List.set_cons_succ]
      refine take_at 3 19 (v := ?_) rfl rfl (by kernel_rfl) (by kernel_rfl) (by kernel_rfl) (Or.inl ⟨by rfl, ?_⟩) hHeld ?_
      rotate_left
      · intro w hSw; go_simp; with_reducible rfl
      simp only [Act.put, List.setIfInBounds_toArray, List.set_cons_zero, List.set_cons_succ]
      refine take_at 4 20 (v := ?_) rfl rfl (by kernel_rfl) (by kernel_rfl) (by kernel_rfl) (Or.inl ⟨by rfl, ?_⟩) hHeld ?_
      rotate_left
      · intro w hSw; go_simp; with_reducible rfl
      simp only [Act.put, List.setIfInBounds_toArray, List.set_cons_zero, List.set_cons_succ]
      refine take_at 5 21 (v := .pointer (some ⟨b, 1027 + i * 3, none⟩)) rfl rfl (by kernel_rfl) (by kernel_rfl) (by kernel_rfl) (Or.inl ⟨by rfl, ?_⟩) hHeld ?_
      · intro w hSw; have hi1 : (i : Int) < 49 := by omega
        first | (go_simp; done) | (go_simp; rfl)
      simp only [Act.put, List.setIfInBounds_toArray, List.set_cons_zero, List.set_cons_succ]
      refine take_at 6 22 rfl rfl (by kernel_rfl) (by kernel_rfl) (by kernel_rfl) (yieldsIf_load_mid (by rfl) 31 _ rfl b (1027 + i * 3) rfl (ev X).toList _ (fun w' h => unhide RE w' h.below) Try.underlying31 rfl s3) hHeld ?_
      simp only [Act.put, List.setIfInBounds_toArray, List.set_cons_zero, List.set_cons_succ]
      refine take_at 7 23 (v := ?_) rfl rfl (by kernel_rfl) (by kernel_rfl) (by kernel_rfl) (Or.inl ⟨by rfl, ?_⟩) hHeld ?_
      rotate_left
      · intro w hSw; go_simp; with_reducible rfl
      simp only [Act.put, List.setIfInBounds_toArray, List.set_cons_zero, List.set_cons_succ]
      refine take_at 8 24 (v := ?_) rfl rfl (by kernel_rfl) (by kernel_rfl) (by kernel_rfl) (Or.inl ⟨by rfl, ?_⟩) hHeld ?_
      rotate_left
      · intro w hSw; have c2 := unhide KC _ _ hSw; go_simp; with_reducible rfl
      simp only [Act.put, List.setIfInBounds_toArray, List.set_cons_zero, List.set_cons_succ]
      refine take_at 9 25 (v := ?_) rfl rfl (by kernel_rfl) (by kernel_rfl) (by kernel_rfl) (Or.inl ⟨by rfl, ?_⟩) hHeld ?_
      rotate_left
      · intro w hSw; go_simp; with_reducible rfl
      simp only [Act.put, List.setIfInBounds_toArray, List.set_cons_zero, List.set_cons_succ]
      refine wpAnyH_ready (rs := [10]) (by kernel_rfl) (by simp) ?_
      refine AllReadyH.cons rfl (fun K hK => ?_) AllReadyH.nil
      go_simp
      refine (unhide CN _).mono ?_
      rintro e w' ⟨rfl, hbx⟩
      go_wp2_with fail
      refine hK.out _ _ (hHeld.call hbx) (fun hNew => ?_)
      clear hK K hHeld hbx
      have hHeld := hNew
      clear hNew
      refine take_at 11 8 (v := ?_) rfl rfl (by kernel_rfl) (by kernel_rfl) (by kernel_rfl) (Or.inl ⟨by rfl, ?_⟩) hHeld ?_
      rotate_left
      · intro w hSw; go_simp; with_reducible rfl
      simp only [Act.put, List.setIfInBounds_toArray, List.set_cons_zero, List.set_cons_succ]
      refine wpAnyH_done (by kernel_rfl) ?_ _
      refine NoPanic.normal ?_
      have c2 := unhide KC _ _ hHeld
      go_wp2_with fail
      go_ret2
      exact ⟨rfl, hHeld.below⟩
    · rw [if_neg hE]
      have hE1 : (E != 0) = true := by simpa using hE
      clear hE
      go_enter Try.func12, Try.ntmps12
      go_wp2_with fail
      refine (unhide O _).mono ?_
      rintro e w1 ⟨rfl, hb⟩
      have O1 := hide (((Own.start w).call hb).alloc (.cells Z 51))
      clear hb O
      go_upto_region 4 with fail
      obtain ⟨g, hg⟩ : ∃ g, g = w1.heap.size := ⟨_, rfl⟩
      rw [← hg] at O1 ⊢
      clear hg
      generalize w1.alloc (.cells Z 51) = w2 at *
      have HS := (unhide O1).drew
      clear O1
      refine wp_region_noPanic ?_
      refine wp_region_held_drew (S := fun w' => Own w w' [(g, .cells Z 51)]) (by kernel_rfl) HS (fun hHeld => ?_)
      clear HS
      refine take_at 0 16 (v := ?_) rfl rfl (by kernel_rfl) (by kernel_rfl) (by kernel_rfl) (Or.inl ⟨by rfl, ?_⟩) hHeld ?_
      rotate_left
      · intro w hSw; go_simp; with_reducible rfl
      simp only [Act.put, List.setIfInBounds_toArray, List.set_cons_zero, List.set_cons_succ]
      refine take_at 1 17 (v := ?_) rfl rfl (by kernel_rfl) (by kernel_rfl) (by kernel_rfl) (Or.inl ⟨by rfl, ?_⟩) hHeld ?_
      rotate_left
      · intro w hSw; go_simp; with_reducible rfl
      simp only [Act.put, List.setIfInBounds_toArray, List.set_cons_zero, List.set_cons_succ]
      refine take_at 2 18 (v := ?_) rfl rfl (by kernel_rfl) (by kernel_rfl) (by kernel_rfl) (Or.inl ⟨by rfl, ?_⟩) hHeld ?_
      rotate_left
      · intro w hSw; have c2 := unhide KC _ _ hSw; go_simp; with_reducible rfl
      simp only [Act.put, List.setIfInBounds_toArray, List.set_cons_zero, List.set_cons_succ]
      refine take_at 3 19 (v := ?_) rfl rfl (by kernel_rfl) (by kernel_rfl) (by kernel_rfl) (Or.inl ⟨by rfl, ?_⟩) hHeld ?_
      rotate_left
      · intro w hSw; go_simp; with_reducible rfl
      simp only [Act.put, List.setIfInBounds_toArray, List.set_cons_zero, List.set_cons_succ]
      refine take_at 4 20 (v := ?_) rfl rfl (by kernel_rfl) (by kernel_rfl) (by kernel_rfl) (Or.inl ⟨by rfl, ?_⟩) hHeld ?_
      rotate_left
      · intro w hSw; go_simp; with_reducible rfl
      simp only [Act.put, List.setIfInBounds_toArray, List.set_cons_zero, List.set_cons_succ]
      refine take_at 5 21 (v := .pointer (some ⟨b, 1027 + i * 3, none⟩)) rfl rfl (by kernel_rfl) (by kernel_rfl) (by kernel_rfl) (Or.inl ⟨by rfl, ?_⟩) hHeld ?_
      · intro w hSw; have hi1 : (i : Int) < 49 := by omega
        first | (go_simp; done) | (go_simp; rfl)
      simp only [Act.put, List.setIfInBounds_toArray, List.set_cons_zero, List.set_cons_succ]
      refine take_at 6 22 rfl rfl (by kernel_rfl) (by kernel_rfl) (by kernel_rfl) (yieldsIf_load_mid (by rfl) 31 _ rfl b (1027 + i * 3) rfl (ev X).toList _ (fun w' h => unhide RE w' h.below) Try.underlying31 rfl s3) hHeld ?_
      simp only [Act.put, List.setIfInBounds_toArray, List.set_cons_zero, List.set_cons_succ]
      refine take_at 7 23 (v := ?_) rfl rfl (by kernel_rfl) (by kernel_rfl) (by kernel_rfl) (Or.inl ⟨by rfl, ?_⟩) hHeld ?_
      rotate_left
      · intro w hSw; go_simp; with_reducible rfl
      simp only [Act.put, List.setIfInBounds_toArray, List.set_cons_zero, List.set_cons_succ]
      refine take_at 8 24 (v := ?_) rfl rfl (by kernel_rfl) (by kernel_rfl) (by kernel_rfl) (Or.inl ⟨by rfl, ?_⟩) hHeld ?_
      rotate_left
      · intro w hSw; have c2 := unhide KC _ _ hSw; go_simp; with_reducible rfl
      simp only [Act.put, List.setIfInBounds_toArray, List.set_cons_zero, List.set_cons_succ]
      refine take_at 9 25 (v := ?_) rfl rfl (by kernel_rfl) (by kernel_rfl) (by kernel_rfl) (Or.inl ⟨by rfl, ?_⟩) hHeld ?_
      rotate_left
      · intro w hSw; go_simp; with_reducible rfl
      simp only [Act.put, List.setIfInBounds_toArray, List.set_cons_zero, List.set_cons_succ]
      refine wpAnyH_ready (rs := [10]) (by kernel_rfl) (by simp) ?_
      refine AllReadyH.cons rfl (fun K hK => ?_) AllReadyH.nil
      go_simp
      refine (unhide CN _).mono ?_
      rintro e w' ⟨rfl, hbx⟩
      go_wp2_with fail
      refine hK.out _ _ (hHeld.call hbx) (fun hNew => ?_)
      clear hK K hHeld hbx
      have hHeld := hNew
      clear hNew
      refine take_at 11 8 (v := ?_) rfl rfl (by kernel_rfl) (by kernel_rfl) (by kernel_rfl) (Or.inl ⟨by rfl, ?_⟩) hHeld ?_
      rotate_left
      · intro w hSw; go_simp; with_reducible rfl
      simp only [Act.put, List.setIfInBounds_toArray, List.set_cons_zero, List.set_cons_succ]
      refine wpAnyH_done (by kernel_rfl) ?_ _
      refine NoPanic.normal ?_
      go_wp2_with fail
      go_ret2
      exact ⟨rfl, hHeld.below⟩

end Go.Proofs.Ytjmgmbigbkllgab
