
/-
  entry's Names, and the document's: what it says, for whatever entry, number and word; nothing that was there turns.
-/
import Derived.Test.YtdmijjncninlbaaECalls
import Derived.Test.YtdmijjncninlbaaKRef2
namespace Go.Proofs.Ytdmijjncninlbaa
open Go.ChangeShapes Go.WideShapes Go.ChangeAt Go.RowKit Go.Joins
set_option maxRecDepth 10000
set_option linter.unusedVariables false
set_option linter.unusedSimpArgs false

set_option maxHeartbeats 4000000 in
theorem names3 (k v l i c : Int) (h0 : 0 ≤ c) (h1 : c ≤ 18446744073709551615) (w : World) : Calls Try.prog 14 #[.agg #[.int .i64 k, .int .i64 v, .int .i64 l], .int .i64 i, .int .u64 c] w fun e w' => e = .returned (.int .i64 (namE ⟨k, v, l⟩ i c)) ∧ Below w.heap.size w w' := by
  have O := hide (of_any c h0 h1)
  cases hC : isC c with
  | false =>
    have eE : namE ⟨k, v, l⟩ i c = 31 := by simp [namE, hC]
    rw [eE]
    rw [hC, ofV_not c hC] at O
    clear hC eE
    have nC := cv_new zc 47
    have zC := cv_size zc
    generalize cv zc = Z at *
    go_enter Try.func14, Try.ntmps14
    go_wp2_with fail
    refine (unhide O _).mono ?_
    rintro e w1 ⟨rfl, hb⟩
    have Hb := hide ((((Below.refl _ w).alloc (Nat.le_refl _) (.cells #[.int .i64 k, .int .i64 v, .int .i64 l] 23)).trans (hb.mono (by simp))))
    have hs : w.heap.size < w1.heap.size := by have := hb.size; simp at this; omega
    have Kx := hide ((hb.block w.heap.size (by simp)).trans (heap_new w _))
    have x0 : w1.cell? ⟨w.heap.size, 0, none⟩ = some (.int .i64 k) := by rw [cell_of_block (unhide Kx)]; rfl
    have x1 : w1.cell? ⟨w.heap.size, 1, none⟩ = some (.int .i64 v) := by rw [cell_of_block (unhide Kx)]; rfl
    clear hb Kx
    go_wp2_with fail
    go_ret
    exact ⟨rfl, (unhide Hb).alloc (unhide Hb).size _⟩
  | true =>
    rw [hC, ofV_is c hC] at O
    obtain ⟨a, r, d, u, b, hc⟩ : ∃ a r d u b, ofC c = ⟨a, r, d, u, b⟩ := ⟨_, _, _, _, _, rfl⟩
    have HE : Hid (namE ⟨k, v, l⟩ i c = if a ≠ 5 ∧ a ≠ 6 then (if d = i then (if u = v then (if k = 0 then 30 else if a = k then 0 else 31) else 33) else 30) else 31) := by
      show _ = _
      unfold namE
      rw [hC, hc]
      simp
    rw [unhide HE]
    rw [hc, show (cv ⟨a, r, d, u, b⟩) = #[.int .i64 a, .int .i64 r, .int .i64 d, .int .i64 u, .int .i64 b] from rfl] at O
    clear HE hC hc
    by_cases h5 : a = 5
    · rw [if_neg (by simp [h5])]
      subst h5
      go_enter Try.func14, Try.ntmps14
      go_wp2_with fail
      refine (unhide O _).mono ?_
      rintro e w1 ⟨rfl, hb⟩
      have Hb := hide ((((Below.refl _ w).alloc (Nat.le_refl _) (.cells #[.int .i64 k, .int .i64 v, .int .i64 l] 23)).trans (hb.mono (by simp))))
      have hs : w.heap.size < w1.heap.size := by have := hb.size; simp at this; omega
      have Kx := hide ((hb.block w.heap.size (by simp)).trans (heap_new w _))
      have x0 : w1.cell? ⟨w.heap.size, 0, none⟩ = some (.int .i64 k) := by rw [cell_of_block (unhide Kx)]; rfl
      have x1 : w1.cell? ⟨w.heap.size, 1, none⟩ = some (.int .i64 v) := by rw [cell_of_block (unhide Kx)]; rfl
      clear hb Kx
      go_wp2_with fail
      go_ret
      exact ⟨rfl, (unhide Hb).alloc (unhide Hb).size _⟩
    by_cases h6 : a = 6
    · rw [if_neg (by simp [h6])]
      subst h6
      go_enter Try.func14, Try.ntmps14
      go_wp2_with fail
      refine (unhide O _).mono ?_
      rintro e w1 ⟨rfl, hb⟩
      have Hb := hide ((((Below.refl _ w).alloc (Nat.le_refl _) (.cells #[.int .i64 k, .int .i64 v, .int .i64 l] 23)).trans (hb.mono (by simp))))
      have hs : w.heap.size < w1.heap.size := by have := hb.size; simp at this; omega
      have Kx := hide ((hb.block w.heap.size (by simp)).trans (heap_new w _))
      have x0 : w1.cell? ⟨w.heap.size, 0, none⟩ = some (.int .i64 k) := by rw [cell_of_block (unhide Kx)]; rfl
      have x1 : w1.cell? ⟨w.heap.size, 1, none⟩ = some (.int .i64 v) := by rw [cell_of_block (unhide Kx)]; rfl
      clear hb Kx
      go_wp2_with fail
      go_ret
      exact ⟨rfl, (unhide Hb).alloc (unhide Hb).size _⟩
    rw [if_pos ⟨h5, h6⟩]
    have h5' : (a == 5) = false := by simpa using h5
    have h6' : (a == 6) = false := by simpa using h6
    clear h5 h6
    by_cases hd : d = i
    · rw [if_pos hd]
      have hd' : (d != i) = false := by simpa using hd
      clear hd
      by_cases hu : u = v
      · rw [if_pos hu]
        have hu' : (u != v) = false := by simpa using hu
        clear hu
        by_cases hk : k = 0
        · rw [if_pos hk]
          have hk' : (k == 0) = true := by simpa using hk
          clear hk
          go_enter Try.func14, Try.ntmps14
          go_wp2_with fail
          refine (unhide O _).mono ?_
          rintro e w1 ⟨rfl, hb⟩
          have Hb := hide ((((Below.refl _ w).alloc (Nat.le_refl _) (.cells #[.int .i64 k, .int .i64 v, .int .i64 l] 23)).trans (hb.mono (by simp))))
          have hs : w.heap.size < w1.heap.size := by have := hb.size; simp at this; omega
          have Kx := hide ((hb.block w.heap.size (by simp)).trans (heap_new w _))
          have x0 : w1.cell? ⟨w.heap.size, 0, none⟩ = some (.int .i64 k) := by rw [cell_of_block (unhide Kx)]; rfl
          have x1 : w1.cell? ⟨w.heap.size, 1, none⟩ = some (.int .i64 v) := by rw [cell_of_block (unhide Kx)]; rfl
          clear hb Kx
          go_wp2_with fail
          go_ret
          exact ⟨rfl, (unhide Hb).alloc (unhide Hb).size _⟩
        · rw [if_neg hk]
          have hk' : (k == 0) = false := by simpa using hk
          clear hk
          by_cases ha : a = k
          · rw [if_pos ha]
            have ha' : (a != k) = false := by simpa using ha
            clear ha
            go_enter Try.func14, Try.ntmps14
            go_wp2_with fail
            refine (unhide O _).mono ?_
            rintro e w1 ⟨rfl, hb⟩
            have Hb := hide ((((Below.refl _ w).alloc (Nat.le_refl _) (.cells #[.int .i64 k, .int .i64 v, .int .i64 l] 23)).trans (hb.mono (by simp))))
            have hs : w.heap.size < w1.heap.size := by have := hb.size; simp at this; omega
            have Kx := hide ((hb.block w.heap.size (by simp)).trans (heap_new w _))
            have x0 : w1.cell? ⟨w.heap.size, 0, none⟩ = some (.int .i64 k) := by rw [cell_of_block (unhide Kx)]; rfl
            have x1 : w1.cell? ⟨w.heap.size, 1, none⟩ = some (.int .i64 v) := by rw [cell_of_block (unhide Kx)]; rfl
            clear hb Kx
            go_wp2_with fail
            go_ret
            exact ⟨rfl, (unhide Hb).alloc (unhide Hb).size _⟩
          · rw [if_neg ha]
            have ha' : (a != k) = true := by simpa using ha
            clear ha
            go_enter Try.func14, Try.ntmps14
            go_wp2_with fail
            refine (unhide O _).mono ?_
            rintro e w1 ⟨rfl, hb⟩
            have Hb := hide ((((Below.refl _ w).alloc (Nat.le_refl _) (.cells #[.int .i64 k, .int .i64 v, .int .i64 l] 23)).trans (hb.mono (by simp))))
            have hs : w.heap.size < w1.heap.size := by have := hb.size; simp at this; omega
            have Kx := hide ((hb.block w.heap.size (by simp)).trans (heap_new w _))
            have x0 : w1.cell? ⟨w.heap.size, 0, none⟩ = some (.int .i64 k) := by rw [cell_of_block (unhide Kx)]; rfl
            have x1 : w1.cell? ⟨w.heap.size, 1, none⟩ = some (.int .i64 v) := by rw [cell_of_block (unhide Kx)]; rfl
            clear hb Kx
            go_wp2_with fail
            go_ret
            exact ⟨rfl, (unhide Hb).alloc (unhide Hb).size _⟩
      · rw [if_neg hu]
        have hu' : (u != v) = true := by simpa using hu
        clear hu
        go_enter Try.func14, Try.ntmps14
        go_wp2_with fail
        refine (unhide O _).mono ?_
        rintro e w1 ⟨rfl, hb⟩
        have Hb := hide ((((Below.refl _ w).alloc (Nat.le_refl _) (.cells #[.int .i64 k, .int .i64 v, .int .i64 l] 23)).trans (hb.mono (by simp))))
        have hs : w.heap.size < w1.heap.size := by have := hb.size; simp at this; omega
        have Kx := hide ((hb.block w.heap.size (by simp)).trans (heap_new w _))
        have x0 : w1.cell? ⟨w.heap.size, 0, none⟩ = some (.int .i64 k) := by rw [cell_of_block (unhide Kx)]; rfl
        have x1 : w1.cell? ⟨w.heap.size, 1, none⟩ = some (.int .i64 v) := by rw [cell_of_block (unhide Kx)]; rfl
        clear hb Kx
        go_wp2_with fail
        go_ret
        exact ⟨rfl, (unhide Hb).alloc (unhide Hb).size _⟩
    · rw [if_neg hd]
      have hd' : (d != i) = true := by simpa using hd
      clear hd
      go_enter Try.func14, Try.ntmps14
      go_wp2_with fail
      refine (unhide O _).mono ?_
      rintro e w1 ⟨rfl, hb⟩
      have Hb := hide ((((Below.refl _ w).alloc (Nat.le_refl _) (.cells #[.int .i64 k, .int .i64 v, .int .i64 l] 23)).trans (hb.mono (by simp))))
      have hs : w.heap.size < w1.heap.size := by have := hb.size; simp at this; omega
      have Kx := hide ((hb.block w.heap.size (by simp)).trans (heap_new w _))
      have x0 : w1.cell? ⟨w.heap.size, 0, none⟩ = some (.int .i64 k) := by rw [cell_of_block (unhide Kx)]; rfl
      have x1 : w1.cell? ⟨w.heap.size, 1, none⟩ = some (.int .i64 v) := by rw [cell_of_block (unhide Kx)]; rfl
      clear hb Kx
      go_wp2_with fail
      go_ret
      exact ⟨rfl, (unhide Hb).alloc (unhide Hb).size _⟩
theorem names_any (x : En) (i c : Int) (h0 : 0 ≤ c) (h1 : c ≤ 18446744073709551615) (w : World) : Calls Try.prog 14 #[.agg (ev x), .int .i64 i, .int .u64 c] w fun e w' => e = .returned (.int .i64 (namE x i c)) ∧ Below w.heap.size w w' := names3 x.k x.v x.l i c h0 h1 w
set_option maxHeartbeats 4000000 in
theorem rnames3 (k v l i c : Int) (h0 : 0 ≤ c) (h1 : c ≤ 18446744073709551615) (w : World) : Calls Try.prog 15 #[.agg #[.int .i64 k, .int .i64 v, .int .i64 l], .int .i64 i, .int .u64 c] w fun e w' => e = .returned (.int .i64 (namE ⟨k, v, l⟩ i c)) ∧ Below w.heap.size w w' := by
  have O := hide (rof_any c h0 h1)
  cases hC : isC c with
  | false =>
    have eE : namE ⟨k, v, l⟩ i c = 31 := by simp [namE, hC]
    rw [eE]
    rw [hC, ofV_not c hC] at O
    clear hC eE
    have nC := cv_new zc 47
    have zC := cv_size zc
    generalize cv zc = Z at *
    go_enter Try.func15, Try.ntmps15
    go_wp2_with fail
    refine (unhide O _).mono ?_
    rintro e w1 ⟨rfl, hb⟩
    have Hb := hide ((((Below.refl _ w).alloc (Nat.le_refl _) (.cells #[.int .i64 k, .int .i64 v, .int .i64 l] 23)).trans (hb.mono (by simp))))
    have hs : w.heap.size < w1.heap.size := by have := hb.size; simp at this; omega
    have Kx := hide ((hb.block w.heap.size (by simp)).trans (heap_new w _))
    have x0 : w1.cell? ⟨w.heap.size, 0, none⟩ = some (.int .i64 k) := by rw [cell_of_block (unhide Kx)]; rfl
    have x1 : w1.cell? ⟨w.heap.size, 1, none⟩ = some (.int .i64 v) := by rw [cell_of_block (unhide Kx)]; rfl
    clear hb Kx
    go_wp2_with fail
    go_ret
    exact ⟨rfl, (unhide Hb).alloc (unhide Hb).size _⟩
  | true =>
    rw [hC, ofV_is c hC] at O
    obtain ⟨a, r, d, u, b, hc⟩ : ∃ a r d u b, ofC c = ⟨a, r, d, u, b⟩ := ⟨_, _, _, _, _, rfl⟩
    have HE : Hid (namE ⟨k, v, l⟩ i c = if a ≠ 5 ∧ a ≠ 6 then (if d = i then (if u = v then (if k = 0 then 30 else if a = k then 0 else 31) else 33) else 30) else 31) := by
      show _ = _
      unfold namE
      rw [hC, hc]
      simp
    rw [unhide HE]
    rw [hc, show (cv ⟨a, r, d, u, b⟩) = #[.int .i64 a, .int .i64 r, .int .i64 d, .int .i64 u, .int .i64 b] from rfl] at O
    clear HE hC hc
    by_cases h5 : a = 5
    · rw [if_neg (by simp [h5])]
      subst h5
      go_enter Try.func15, Try.ntmps15
      go_wp2_with fail
      refine (unhide O _).mono ?_
      rintro e w1 ⟨rfl, hb⟩
      have Hb := hide ((((Below.refl _ w).alloc (Nat.le_refl _) (.cells #[.int .i64 k, .int .i64 v, .int .i64 l] 23)).trans (hb.mono (by simp))))
      have hs : w.heap.size < w1.heap.size := by have := hb.size; simp at this; omega
      have Kx := hide ((hb.block w.heap.size (by simp)).trans (heap_new w _))
      have x0 : w1.cell? ⟨w.heap.size, 0, none⟩ = some (.int .i64 k) := by rw [cell_of_block (unhide Kx)]; rfl
      have x1 : w1.cell? ⟨w.heap.size, 1, none⟩ = some (.int .i64 v) := by rw [cell_of_block (unhide Kx)]; rfl
      clear hb Kx
      go_wp2_with fail
      go_ret
      exact ⟨rfl, (unhide Hb).alloc (unhide Hb).size _⟩
    by_cases h6 : a = 6
    · rw [if_neg (by simp [h6])]
      subst h6
      go_enter Try.func15, Try.ntmps15
      go_wp2_with fail
      refine (unhide O _).mono ?_
      rintro e w1 ⟨rfl, hb⟩
      have Hb := hide ((((Below.refl _ w).alloc (Nat.le_refl _) (.cells #[.int .i64 k, .int .i64 v, .int .i64 l] 23)).trans (hb.mono (by simp))))
      have hs : w.heap.size < w1.heap.size := by have := hb.size; simp at this; omega
      have Kx := hide ((hb.block w.heap.size (by simp)).trans (heap_new w _))
      have x0 : w1.cell? ⟨w.heap.size, 0, none⟩ = some (.int .i64 k) := by rw [cell_of_block (unhide Kx)]; rfl
      have x1 : w1.cell? ⟨w.heap.size, 1, none⟩ = some (.int .i64 v) := by rw [cell_of_block (unhide Kx)]; rfl
      clear hb Kx
      go_wp2_with fail
      go_ret
      exact ⟨rfl, (unhide Hb).alloc (unhide Hb).size _⟩
    rw [if_pos ⟨h5, h6⟩]
    have h5' : (a == 5) = false := by simpa using h5
    have h6' : (a == 6) = false := by simpa using h6
    clear h5 h6
    by_cases hd : d = i
    · rw [if_pos hd]
      have hd' : (d != i) = false := by simpa using hd
      clear hd
      by_cases hu : u = v
      · rw [if_pos hu]
        have hu' : (u != v) = false := by simpa using hu
        clear hu
        by_cases hk : k = 0
        · rw [if_pos hk]
          have hk' : (k == 0) = true := by simpa using hk
          clear hk
          go_enter Try.func15, Try.ntmps15
          go_wp2_with fail
          refine (unhide O _).mono ?_
          rintro e w1 ⟨rfl, hb⟩
          have Hb := hide ((((Below.refl _ w).alloc (Nat.le_refl _) (.cells #[.int .i64 k, .int .i64 v, .int .i64 l] 23)).trans (hb.mono (by simp))))
          have hs : w.heap.size < w1.heap.size := by have := hb.size; simp at this; omega
          have Kx := hide ((hb.block w.heap.size (by simp)).trans (heap_new w _))
          have x0 : w1.cell? ⟨w.heap.size, 0, none⟩ = some (.int .i64 k) := by rw [cell_of_block (unhide Kx)]; rfl
          have x1 : w1.cell? ⟨w.heap.size, 1, none⟩ = some (.int .i64 v) := by rw [cell_of_block (unhide Kx)]; rfl
          clear hb Kx
          go_wp2_with fail
          go_ret
          exact ⟨rfl, (unhide Hb).alloc (unhide Hb).size _⟩
        · rw [if_neg hk]
          have hk' : (k == 0) = false := by simpa using hk
          clear hk
          by_cases ha : a = k
          · rw [if_pos ha]
            have ha' : (a != k) = false := by simpa using ha
            clear ha
            go_enter Try.func15, Try.ntmps15
            go_wp2_with fail
            refine (unhide O _).mono ?_
            rintro e w1 ⟨rfl, hb⟩
            have Hb := hide ((((Below.refl _ w).alloc (Nat.le_refl _) (.cells #[.int .i64 k, .int .i64 v, .int .i64 l] 23)).trans (hb.mono (by simp))))
            have hs : w.heap.size < w1.heap.size := by have := hb.size; simp at this; omega
            have Kx := hide ((hb.block w.heap.size (by simp)).trans (heap_new w _))
            have x0 : w1.cell? ⟨w.heap.size, 0, none⟩ = some (.int .i64 k) := by rw [cell_of_block (unhide Kx)]; rfl
            have x1 : w1.cell? ⟨w.heap.size, 1, none⟩ = some (.int .i64 v) := by rw [cell_of_block (unhide Kx)]; rfl
            clear hb Kx
            go_wp2_with fail
            go_ret
            exact ⟨rfl, (unhide Hb).alloc (unhide Hb).size _⟩
          · rw [if_neg ha]
            have ha' : (a != k) = true := by simpa using ha
            clear ha
            go_enter Try.func15, Try.ntmps15
            go_wp2_with fail
            refine (unhide O _).mono ?_
            rintro e w1 ⟨rfl, hb⟩
            have Hb := hide ((((Below.refl _ w).alloc (Nat.le_refl _) (.cells #[.int .i64 k, .int .i64 v, .int .i64 l] 23)).trans (hb.mono (by simp))))
            have hs : w.heap.size < w1.heap.size := by have := hb.size; simp at this; omega
            have Kx := hide ((hb.block w.heap.size (by simp)).trans (heap_new w _))
            have x0 : w1.cell? ⟨w.heap.size, 0, none⟩ = some (.int .i64 k) := by rw [cell_of_block (unhide Kx)]; rfl
            have x1 : w1.cell? ⟨w.heap.size, 1, none⟩ = some (.int .i64 v) := by rw [cell_of_block (unhide Kx)]; rfl
            clear hb Kx
            go_wp2_with fail
            go_ret
            exact ⟨rfl, (unhide Hb).alloc (unhide Hb).size _⟩
      · rw [if_neg hu]
        have hu' : (u != v) = true := by simpa using hu
        clear hu
        go_enter Try.func15, Try.ntmps15
        go_wp2_with fail
        refine (unhide O _).mono ?_
        rintro e w1 ⟨rfl, hb⟩
        have Hb := hide ((((Below.refl _ w).alloc (Nat.le_refl _) (.cells #[.int .i64 k, .int .i64 v, .int .i64 l] 23)).trans (hb.mono (by simp))))
        have hs : w.heap.size < w1.heap.size := by have := hb.size; simp at this; omega
        have Kx := hide ((hb.block w.heap.size (by simp)).trans (heap_new w _))
        have x0 : w1.cell? ⟨w.heap.size, 0, none⟩ = some (.int .i64 k) := by rw [cell_of_block (unhide Kx)]; rfl
        have x1 : w1.cell? ⟨w.heap.size, 1, none⟩ = some (.int .i64 v) := by rw [cell_of_block (unhide Kx)]; rfl
        clear hb Kx
        go_wp2_with fail
        go_ret
        exact ⟨rfl, (unhide Hb).alloc (unhide Hb).size _⟩
    · rw [if_neg hd]
      have hd' : (d != i) = true := by simpa using hd
      clear hd
      go_enter Try.func15, Try.ntmps15
      go_wp2_with fail
      refine (unhide O _).mono ?_
      rintro e w1 ⟨rfl, hb⟩
      have Hb := hide ((((Below.refl _ w).alloc (Nat.le_refl _) (.cells #[.int .i64 k, .int .i64 v, .int .i64 l] 23)).trans (hb.mono (by simp))))
      have hs : w.heap.size < w1.heap.size := by have := hb.size; simp at this; omega
      have Kx := hide ((hb.block w.heap.size (by simp)).trans (heap_new w _))
      have x0 : w1.cell? ⟨w.heap.size, 0, none⟩ = some (.int .i64 k) := by rw [cell_of_block (unhide Kx)]; rfl
      have x1 : w1.cell? ⟨w.heap.size, 1, none⟩ = some (.int .i64 v) := by rw [cell_of_block (unhide Kx)]; rfl
      clear hb Kx
      go_wp2_with fail
      go_ret
      exact ⟨rfl, (unhide Hb).alloc (unhide Hb).size _⟩
theorem rnames_any (x : En) (i c : Int) (h0 : 0 ≤ c) (h1 : c ≤ 18446744073709551615) (w : World) : Calls Try.prog 15 #[.agg (ev x), .int .i64 i, .int .u64 c] w fun e w' => e = .returned (.int .i64 (namE x i c)) ∧ Below w.heap.size w w' := rnames3 x.k x.v x.l i c h0 h1 w

end Go.Proofs.Ytdmijjncninlbaa
