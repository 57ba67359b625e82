/-
  What Sure tells beside blocks of the call's own; and the statements' same, on rows that are the same.
-/
import Derived.Test.YtkoaajcfnnpiaaaNTotal
namespace Go.Proofs.Ytkoaajcfnnpiaaa
open Go.ChangeShapes Go.WideShapes Go.ChangeAt Go.RowKit Go.Joins
set_option maxRecDepth 10000
set_option linter.unusedVariables false
set_option linter.unusedSimpArgs false

/-- A row of lines of the call's own. -/
def RowL (w : World) (g n : Nat) (s : Nat → Nat → Int) : Prop := Blk w g (n * 8) 50 (fun i => .int .u64 (s (i / 8) (i % 8)))
theorem RowL.at {w : World} {g n : Nat} {s : Nat → Nat → Int} (h : RowL w g n s) (i : Nat) (hi : i < n) : w.rangeAt g (i * 8) (lnV (s i)).toList :=
  Blk.range h (i * 8) 8 (by omega) (fun j => .int .u64 (s i j)) fun j hj => by
    show Value.int .u64 (s ((i * 8 + j) / 8) ((i * 8 + j) % 8)) = _
    rw [show (i * 8 + j) / 8 = i by omega, show (i * 8 + j) % 8 = j by omega]
theorem RowL.lines {w : World} {g n : Nat} {s : Nat → Nat → Int} (h : RowL w g n s) : LinesAt w (some ⟨g, 0, none⟩) n s := Or.inr ⟨g, 0, rfl, fun i hi => by rw [Nat.zero_add]; exact h.at i hi⟩
theorem RowL.same {w w' : World} {g n : Nat} {s : Nat → Nat → Int} (h : RowL w g n s) (e : w'.heap[g]? = w.heap[g]?) : RowL w' g n s := by obtain ⟨cur, h1, h2⟩ := h; exact ⟨cur, e.trans h1, h2⟩

theorem Has.sure {W w : World} {G : Nat → Prop} {b : Nat} {A : Mm} (h : Has W w G b A) (hn : A.n ≤ 1024) :
    Calls Try.prog 22 #[.pointer (some ⟨b, 0, none⟩)] w fun e w' => ∃ g, e = .returned (.slice (some ⟨g, 0, none⟩) A.n A.n) ∧ RowL w' g A.n (fun i => (A.l i).s) ∧ Has W w' (fun k => G k ∨ k = g) b A ∧ Same G w w' ∧ W.heap.size ≤ g := by
  obtain ⟨F, c, cs, h1, h2, h3, h4⟩ := h
  refine (sure_any h1 hn).mono ?_
  rintro e w' ⟨g, rfl, hg, hb, hr, hk⟩
  refine ⟨g, rfl, hb, ⟨F, c, cs, hr, h2.trans' hk, h3, fun k hk' => ?_⟩, fun k hk' => hk.block k (h4 k hk').2 id, Nat.le_trans h2.size hg⟩
  rcases hk' with hk' | rfl
  · exact ⟨(h4 k hk').1, Nat.lt_of_lt_of_le (h4 k hk').2 hk.size⟩
  · exact ⟨fun hf => by have := h1.lt _ hf; omega, hb.lt⟩

theorem same_true (w : World) (a a' : Option Addr) (n cap cap' : Nat) (s t : Nat → Nat → Int) (hn : n ≤ 9223372036854775807) (h1 : LinesAt w a n s) (h2 : LinesAt w a' n t) (he : ∀ i, i < n → eqL (s i) (t i) = true) :
    Calls Try.prog 23 #[.slice a n cap, .slice a' n cap'] w fun e w' => e = .returned (.bool true) ∧ Keeps (fun _ => False) w w' := by
  have H1 := hide h1
  have H2 := hide h2
  have HE := hide he
  clear h1 h2 he
  go_enter Try.func23, Try.ntmps23
  go_wp2_with fail
  go_loopw [5] (fun i wr => ∃ k : Nat, k ≤ n ∧ i = .int .i64 k ∧ Keeps (fun _ => False) w wr) (fun i _ => n - (intOf i).toNat)
  case atStart => exact ⟨0, by omega, rfl, Keeps.refl _ _⟩
  case round =>
    obtain ⟨k, hk, rfl, hkp⟩ := hrel
    have HK := hide hkp
    clear hkp
    by_cases hlt : k < n
    · obtain ⟨x, off, rfl, hx⟩ : ∃ b off, a = some ⟨b, off, none⟩ ∧ ∀ i, i < n → w.rangeAt b (off + i * 8) ((List.range 8).map fun j => .int .u64 (s i j)) := by
        rcases unhide H1 with h | h
        · omega
        · exact h
      obtain ⟨y, off', rfl, hy⟩ : ∃ b off, a' = some ⟨b, off, none⟩ ∧ ∀ i, i < n → w.rangeAt b (off + i * 8) ((List.range 8).map fun j => .int .u64 (t i j)) := by
        rcases unhide H2 with h | h
        · omega
        · exact h
      have R1 : Hid (wr.rangeAt x (off + k * 8) (lnV (s k)).toList) := rangeAt_keeps (hx k hlt) (unhide HK) id
      have R2 : Hid (wr.rangeAt y (off' + k * 8) (lnV (t k)).toList) := rangeAt_keeps (hy k hlt) (unhide HK) id
      have e1 := unhide HE k hlt
      obtain ⟨f, hf⟩ : ∃ f, f = s k := ⟨_, rfl⟩
      obtain ⟨g, hg⟩ : ∃ g, g = t k := ⟨_, rfl⟩
      rw [← hf] at R1 e1
      rw [← hg] at R2 e1
      have s8 : (Try.prog.info? 50).map (·.size) = some (lnV f).toList.length := by rw [Array.length_toList, lnV_size]; exact lsize
      have s8' : (Try.prog.info? 50).map (·.size) = some (lnV g).toList.length := by rw [Array.length_toList, lnV_size]; exact lsize
      have hlt' : (k : Int) < (n : Int) := by omega
      clear hx hy hf hg
      go_wp2_with fail
      refine wp_region_noPanic ?_
      refine wp_region_held_drew (S := fun w' => w'.rangeAt x (off + k * 8) (lnV f).toList ∧ w'.rangeAt y (off' + k * 8) (lnV g).toList) (by kernel_rfl) ⟨unhide R1, unhide R2⟩ (fun hHeld => ?_)
      refine take_at 0 17 (v := ?_) rfl rfl (by kernel_rfl) (by kernel_rfl) (by kernel_rfl) (Or.inl ⟨by rfl, ?_⟩) hHeld ?_
      rotate_left
      · intro w hSw; go_simp; with_reducible rfl
      simp only [Act.put, List.setIfInBounds_toArray, List.set_cons_zero, List.set_cons_succ]
      refine take_at 1 18 (v := ?_) rfl rfl (by kernel_rfl) (by kernel_rfl) (by kernel_rfl) (Or.inl ⟨by rfl, ?_⟩) hHeld ?_
      rotate_left
      · intro w hSw; go_simp; with_reducible rfl
      simp only [Act.put, List.setIfInBounds_toArray, List.set_cons_zero, List.set_cons_succ]
      refine take_at 2 19 (v := ?_) rfl rfl (by kernel_rfl) (by kernel_rfl) (by kernel_rfl) (Or.inl ⟨by rfl, ?_⟩) hHeld ?_
      rotate_left
      · intro w hSw; go_simp; with_reducible rfl
      simp only [Act.put, List.setIfInBounds_toArray, List.set_cons_zero, List.set_cons_succ]
      refine take_at 3 20 rfl rfl (by kernel_rfl) (by kernel_rfl) (by kernel_rfl) (yieldsIf_load_mid (by rfl) _ _ rfl x (off + k * 8) rfl _ _ (fun w h => h.1) Try.underlying50 rfl s8) hHeld ?_
      simp only [Act.put, List.setIfInBounds_toArray, List.set_cons_zero, List.set_cons_succ]
      refine take_at 4 21 (v := ?_) rfl rfl (by kernel_rfl) (by kernel_rfl) (by kernel_rfl) (Or.inl ⟨by rfl, ?_⟩) hHeld ?_
      rotate_left
      · intro w hSw; go_simp; with_reducible rfl
      simp only [Act.put, List.setIfInBounds_toArray, List.set_cons_zero, List.set_cons_succ]
      refine take_at 5 22 (v := ?_) rfl rfl (by kernel_rfl) (by kernel_rfl) (by kernel_rfl) (Or.inl ⟨by rfl, ?_⟩) hHeld ?_
      rotate_left
      · intro w hSw; go_simp; with_reducible rfl
      simp only [Act.put, List.setIfInBounds_toArray, List.set_cons_zero, List.set_cons_succ]
      refine take_at 6 23 (v := ?_) rfl rfl (by kernel_rfl) (by kernel_rfl) (by kernel_rfl) (Or.inl ⟨by rfl, ?_⟩) hHeld ?_
      rotate_left
      · intro w hSw; go_simp; with_reducible rfl
      simp only [Act.put, List.setIfInBounds_toArray, List.set_cons_zero, List.set_cons_succ]
      refine take_at 7 24 rfl rfl (by kernel_rfl) (by kernel_rfl) (by kernel_rfl) (yieldsIf_load_mid (by rfl) _ _ rfl y (off' + k * 8) rfl _ _ (fun w h => h.2) Try.underlying50 rfl s8') hHeld ?_
      simp only [Act.put, List.setIfInBounds_toArray, List.set_cons_zero, List.set_cons_succ]
      refine take_at 8 25 rfl rfl (by kernel_rfl) (by kernel_rfl) (by kernel_rfl) (yieldsIf_neqL (by rfl) (.tmp 20) (.tmp 24) rfl f g rfl rfl) hHeld ?_
      simp only [Act.put, List.setIfInBounds_toArray, List.set_cons_zero, List.set_cons_succ]
      rw [e1]
      refine wpAnyH_done (by kernel_rfl) ?_ _
      refine NoPanic.normal ?_
      clear hHeld R1 R2
      go_wp2_with fail
      go_roundw
      case rel => exact ⟨k + 1, by omega, by go_num, (unhide HK).drew⟩
      case measure => simp [intOf]; omega
    · obtain rfl : k = n := by omega
      go_wp2_with fail
      go_ret
      exact ⟨rfl, unhide HK⟩

end Go.Proofs.Ytkoaajcfnnpiaaa
