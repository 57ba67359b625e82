
/-
  What the document's has tells: a line, behind its first n stores; nothing that was there turns.
-/
import Derived.Test.YtmmgacpipcgkdaaNRefSmall
namespace Go.Proofs.Ytmmgacpipcgkdaa
open Go.ChangeShapes Go.WideShapes Go.ChangeAt Go.RowKit Go.Joins
set_option maxRecDepth 10000
set_option linter.unusedVariables false
set_option linter.unusedSimpArgs false

section
variable {w : World} {F : Nat → Prop} {b gs cs gl : Nat} {A : Mm} {ads : Nat → Option Nat} {caps : Nat → Nat}

/-- The cells of a store of a line. -/
theorem RRep.st (h : RRep w F b A gs cs gl ads caps) (k : Nat) (hk : k < A.n) (j : Nat) (hj : j < (A.l k).t.length) :
    ∃ g, ads k = some g ∧ w.cell? ⟨g, j * 10, none⟩ = some (.int .i64 (((A.l k).t[j]).1 : Int)) ∧ w.cell? ⟨g, j * 10 + 1, none⟩ = some (.int .u64 ((A.l k).t[j]).2) ∧ ∀ c, c < 8 → w.cell? ⟨g, j * 10 + 2 + c, none⟩ = some (.bool (decide (j < (A.l k).f c))) ∧ w.frozen? ⟨g, j * 10 + 2 + c, none⟩ = false := by
  rcases h.row k hk with ⟨_, _, h0⟩ | ⟨g, N, f, h1, h2, h3, _, _, h4⟩
  · rw [h0] at hj; simp at hj
  · have hg : (A.l k).t[j]?.getD (0, 0) = (A.l k).t[j] := by rw [List.getElem?_eq_getElem hj]; rfl
    refine ⟨g, h1, ?_, ?_, fun c hc => ⟨?_, h2.free _⟩⟩
    · rw [h2.cell _ (by omega)]; have := h4 j 0 hj (by omega); rw [Nat.add_zero] at this; rw [this]; simp [doneAt, List.getD_eq_getElem?_getD, hg]
    · rw [h2.cell _ (by omega), h4 j 1 hj (by omega)]; simp [doneAt, List.getD_eq_getElem?_getD, hg]
    · rw [h2.cell _ (by omega), Nat.add_assoc, h4 j (2 + c) hj (by omega)]; simp [doneAt, show ¬ (2 + c = 0) by omega, show ¬ (2 + c = 1) by omega]

theorem rhas_any (h : RRep w F b A gs cs gl ads caps) (k n : Nat) (hk : k < A.n) (hn : n ≤ (A.l k).t.length) (hok : (A.l k).ok) (hn2 : A.n ≤ 1024) (hl : (A.l k).t.length ≤ 1000000) :
    Calls Try.prog 59 #[.pointer (some ⟨b, 0, none⟩), .int .i64 k, .int .i64 n] w fun e w' => e = .returned (.agg (lnV (runS ((A.l k).t.take n) (A.l k).s))) ∧ Keeps (fun _ => False) w w' := by
  have c0 := h.c0
  have hk' : (k : Int) < (A.n : Int) := by omega
  have H := hide h
  have HR : Hid ((w.alloc (.cells (lnV fun _ => 0) 26)).rangeAt gs (k * 8) (lnV (A.l k).s).toList) := World.rangeAt_alloc (h.sR k hk) _
  have cz := cell_under c0 (.cells (lnV fun _ => 0) 26)
  have s8 : (Try.prog.info? 26).map (·.size) = some (lnV (A.l k).s).toList.length := by rw [Array.length_toList, lnV_size]; exact lsize
  have hz : (#[.int .u64 0, .int .u64 0, .int .u64 0, .int .u64 0, .int .u64 0, .int .u64 0, .int .u64 0, .int .u64 0] : Array Value) = lnV fun _ => 0 := rfl
  have HZ := hide hz
  have hst := store_line (A.l k).s
  have hsz := lnV_size (A.l k).s
  clear h hz
  go_enter Try.func59, Try.ntmps59
  go_upto_region 1 with fail
  rw [unhide HZ]
  have HK1 : Hid (Keeps (fun _ => False) w (w.alloc (.cells (lnV fun _ => 0) 26))) := (Keeps.refl _ _).alloc _
  have HB1 := hide (heap_new w (.cells (lnV fun _ => 0) 26))
  obtain ⟨R, hR⟩ : ∃ R, R = w.heap.size := ⟨_, rfl⟩
  rw [← hR] at HB1 ⊢
  have HRR := hide hR
  clear hR c0 HZ
  generalize w.alloc (.cells (lnV fun _ => 0) 26) = W1 at *
  go_upto_region 2 with (refine wpList_load_mid rfl 26 _ rfl gs (k * 8) rfl _ _ (unhide HR) Try.underlying26 rfl s8 ?_)
  clear hst hsz cz HR
  have HK2 : Hid (Keeps (fun _ => False) w (W1.alloc (.cells (lnV (A.l k).s) 26))) := (unhide HK1).alloc _
  have HB2 := hide (heap_new W1 (.cells (lnV (A.l k).s) 26))
  have hlt1 := lt_of_block (unhide HB1)
  have HB3 : Hid ((W1.alloc (.cells (lnV (A.l k).s) 26)).heap[R]? = some (.cells (lnV fun _ => 0) 26 (0, 0))) := (Below.heap_alloc W1 _ R hlt1).trans (unhide HB1)
  obtain ⟨L, hL⟩ : ∃ L, L = W1.heap.size := ⟨_, rfl⟩
  have hLR : R ≠ L := by omega
  have HLW : Hid (w.heap.size ≤ L) := by show _ ≤ _; rw [hL]; exact (unhide HK1).size
  have HRW : Hid (w.heap.size ≤ R) := by show _ ≤ _; rw [unhide HRR]; exact Nat.le_refl _
  rw [← hL] at HB2 ⊢
  clear hL hlt1 HK1 HB1
  generalize W1.alloc (.cells (lnV (A.l k).s) 26) = W2 at *
  go_wp2_with fail
  go_loopw [8] (fun u wr => ∃ j : Nat, j ≤ n ∧ u = .int .i64 j ∧ Keeps (fun _ => False) w wr ∧ wr.heap[R]? = some (.cells (lnV fun _ => 0) 26 (0, 0)) ∧ wr.heap[L]? = some (.cells (lnV (runS ((A.l k).t.take j) (A.l k).s)) 26 (0, 0))) (fun u _ => n - (intOf u).toNat)
  case atStart => exact ⟨0, by omega, rfl, unhide HK2, unhide HB3, unhide HB2⟩
  case round =>
    clear HK2 HB3 HB2
    obtain ⟨j, hj, rfl, hkr, hrr, hlr⟩ := hrel
    have HKR := hide hkr
    have HBR := hide hrr
    have HBL := hide hlr
    clear hkr hrr hlr
    by_cases hlt : j < n
    · obtain ⟨g, hg, x1, x2, -⟩ := (unhide H).st k hk j (by omega)
      have hset := runS_take (A.l k).t j (by omega) (A.l k).s
      obtain ⟨p1, p2⟩ := hok.2.1 ((A.l k).t[j]) (by simp)
      obtain ⟨q, hq⟩ : ∃ q, q = ((A.l k).t[j]).1 := ⟨_, rfl⟩
      obtain ⟨v, hv⟩ : ∃ v, v = ((A.l k).t[j]).2 := ⟨_, rfl⟩
      rw [← hq] at x1 hset p1
      rw [← hv] at x2 hset p2
      have HS := hide hset
      have X1 := hide x1
      have X2 := hide x2
      have Y1 := hide (unhide H).c1
      have Y2 : Hid (w.cell? ⟨gl, k, none⟩ = some (.slice (some ⟨g, 0, none⟩) (A.l k).t.length (caps k))) := by have := (unhide H).lc k hk; rw [hg] at this; exact this
      have hjl : (j : Int) < ((A.l k).t.length : Int) := by omega
      have hjn : (j : Int) < (n : Int) := by omega
      have q0 : (0 : Int) ≤ (q : Int) := by omega
      have q8 : (q : Int) < 8 := by omega
      clear hset hq hv x1 x2 hg
      go_wp2_with fail
      refine wp_region_noPanic ?_
      refine wp_region_held_drew (S := fun w' => Keeps (fun _ => False) w w') (by kernel_rfl) ((unhide HKR).drew) (fun hHeld => ?_)
      refine take_at 0 21 (v := ?_) rfl rfl (by kernel_rfl) (by kernel_rfl) (by kernel_rfl) (Or.inl ⟨by rfl, ?_⟩) hHeld ?_
      rotate_left
      · intro w hSw; go_simp; with_reducible rfl
      simp only [Act.put, List.setIfInBounds_toArray, List.set_cons_zero, List.set_cons_succ]
      refine take_at 1 22 (v := ?_) rfl rfl (by kernel_rfl) (by kernel_rfl) (by kernel_rfl) (Or.inl ⟨by rfl, ?_⟩) hHeld ?_
      rotate_left
      · intro w hSw; go_simp; with_reducible rfl
      simp only [Act.put, List.setIfInBounds_toArray, List.set_cons_zero, List.set_cons_succ]
      refine take_at 2 23 (v := ?_) rfl rfl (by kernel_rfl) (by kernel_rfl) (by kernel_rfl) (Or.inl ⟨by rfl, ?_⟩) hHeld ?_
      rotate_left
      · intro w hSw; go_simp; with_reducible rfl
      simp only [Act.put, List.setIfInBounds_toArray, List.set_cons_zero, List.set_cons_succ]
      refine take_at 3 24 (v := ?_) rfl rfl (by kernel_rfl) (by kernel_rfl) (by kernel_rfl) (Or.inl ⟨by rfl, ?_⟩) hHeld ?_
      rotate_left
      · intro w hSw; have f := hSw.cellOf (unhide Y1) id; go_simp; with_reducible rfl
      simp only [Act.put, List.setIfInBounds_toArray, List.set_cons_zero, List.set_cons_succ]
      refine take_at 4 25 (v := ?_) rfl rfl (by kernel_rfl) (by kernel_rfl) (by kernel_rfl) (Or.inl ⟨by rfl, ?_⟩) hHeld ?_
      rotate_left
      · intro w hSw; go_simp; with_reducible rfl
      simp only [Act.put, List.setIfInBounds_toArray, List.set_cons_zero, List.set_cons_succ]
      refine take_at 5 26 (v := ?_) rfl rfl (by kernel_rfl) (by kernel_rfl) (by kernel_rfl) (Or.inl ⟨by rfl, ?_⟩) hHeld ?_
      rotate_left
      · intro w hSw; go_simp; with_reducible rfl
      simp only [Act.put, List.setIfInBounds_toArray, List.set_cons_zero, List.set_cons_succ]
      refine take_at 6 27 (v := ?_) rfl rfl (by kernel_rfl) (by kernel_rfl) (by kernel_rfl) (Or.inl ⟨by rfl, ?_⟩) hHeld ?_
      rotate_left
      · intro w hSw; have f := hSw.cellOf (unhide Y2) id; go_simp; with_reducible rfl
      simp only [Act.put, List.setIfInBounds_toArray, List.set_cons_zero, List.set_cons_succ]
      refine take_at 7 28 (v := ?_) rfl rfl (by kernel_rfl) (by kernel_rfl) (by kernel_rfl) (Or.inl ⟨by rfl, ?_⟩) hHeld ?_
      rotate_left
      · intro w hSw; go_simp; with_reducible rfl
      simp only [Act.put, List.setIfInBounds_toArray, List.set_cons_zero, List.set_cons_succ]
      refine take_at 8 29 (v := ?_) rfl rfl (by kernel_rfl) (by kernel_rfl) (by kernel_rfl) (Or.inl ⟨by rfl, ?_⟩) hHeld ?_
      rotate_left
      · intro w hSw; go_simp; with_reducible rfl
      simp only [Act.put, List.setIfInBounds_toArray, List.set_cons_zero, List.set_cons_succ]
      refine take_at 9 30 (v := ?_) rfl rfl (by kernel_rfl) (by kernel_rfl) (by kernel_rfl) (Or.inl ⟨by rfl, ?_⟩) hHeld ?_
      rotate_left
      · intro w hSw; go_simp; with_reducible rfl
      simp only [Act.put, List.setIfInBounds_toArray, List.set_cons_zero, List.set_cons_succ]
      refine take_at 10 31 (v := ?_) rfl rfl (by kernel_rfl) (by kernel_rfl) (by kernel_rfl) (Or.inl ⟨by rfl, ?_⟩) hHeld ?_
      rotate_left
      · intro w hSw; have f := hSw.cellOf (unhide X1) id; go_simp; with_reducible rfl
      simp only [Act.put, List.setIfInBounds_toArray, List.set_cons_zero, List.set_cons_succ]
      refine take_at 11 32 (v := ?_) rfl rfl (by kernel_rfl) (by kernel_rfl) (by kernel_rfl) (Or.inl ⟨by rfl, ?_⟩) hHeld ?_
      rotate_left
      · intro w hSw; go_simp; with_reducible rfl
      simp only [Act.put, List.setIfInBounds_toArray, List.set_cons_zero, List.set_cons_succ]
      refine take_at 12 33 (v := ?_) rfl rfl (by kernel_rfl) (by kernel_rfl) (by kernel_rfl) (Or.inl ⟨by rfl, ?_⟩) hHeld ?_
      rotate_left
      · intro w hSw; go_simp; with_reducible rfl
      simp only [Act.put, List.setIfInBounds_toArray, List.set_cons_zero, List.set_cons_succ]
      refine take_at 13 34 (v := ?_) rfl rfl (by kernel_rfl) (by kernel_rfl) (by kernel_rfl) (Or.inl ⟨by rfl, ?_⟩) hHeld ?_
      rotate_left
      · intro w hSw; go_simp; with_reducible rfl
      simp only [Act.put, List.setIfInBounds_toArray, List.set_cons_zero, List.set_cons_succ]
      refine take_at 14 35 (v := ?_) rfl rfl (by kernel_rfl) (by kernel_rfl) (by kernel_rfl) (Or.inl ⟨by rfl, ?_⟩) hHeld ?_
      rotate_left
      · intro w hSw; have f := hSw.cellOf (unhide Y1) id; go_simp; with_reducible rfl
      simp only [Act.put, List.setIfInBounds_toArray, List.set_cons_zero, List.set_cons_succ]
      refine take_at 15 36 (v := ?_) rfl rfl (by kernel_rfl) (by kernel_rfl) (by kernel_rfl) (Or.inl ⟨by rfl, ?_⟩) hHeld ?_
      rotate_left
      · intro w hSw; go_simp; with_reducible rfl
      simp only [Act.put, List.setIfInBounds_toArray, List.set_cons_zero, List.set_cons_succ]
      refine take_at 16 37 (v := ?_) rfl rfl (by kernel_rfl) (by kernel_rfl) (by kernel_rfl) (Or.inl ⟨by rfl, ?_⟩) hHeld ?_
      rotate_left
      · intro w hSw; go_simp; with_reducible rfl
      simp only [Act.put, List.setIfInBounds_toArray, List.set_cons_zero, List.set_cons_succ]
      refine take_at 17 38 (v := ?_) rfl rfl (by kernel_rfl) (by kernel_rfl) (by kernel_rfl) (Or.inl ⟨by rfl, ?_⟩) hHeld ?_
      rotate_left
      · intro w hSw; have f := hSw.cellOf (unhide Y2) id; go_simp; with_reducible rfl
      simp only [Act.put, List.setIfInBounds_toArray, List.set_cons_zero, List.set_cons_succ]
      refine take_at 18 39 (v := ?_) rfl rfl (by kernel_rfl) (by kernel_rfl) (by kernel_rfl) (Or.inl ⟨by rfl, ?_⟩) hHeld ?_
      rotate_left
      · intro w hSw; go_simp; with_reducible rfl
      simp only [Act.put, List.setIfInBounds_toArray, List.set_cons_zero, List.set_cons_succ]
      refine take_at 19 40 (v := ?_) rfl rfl (by kernel_rfl) (by kernel_rfl) (by kernel_rfl) (Or.inl ⟨by rfl, ?_⟩) hHeld ?_
      rotate_left
      · intro w hSw; go_simp; with_reducible rfl
      simp only [Act.put, List.setIfInBounds_toArray, List.set_cons_zero, List.set_cons_succ]
      refine take_at 20 41 (v := ?_) rfl rfl (by kernel_rfl) (by kernel_rfl) (by kernel_rfl) (Or.inl ⟨by rfl, ?_⟩) hHeld ?_
      rotate_left
      · intro w hSw; go_simp; with_reducible rfl
      simp only [Act.put, List.setIfInBounds_toArray, List.set_cons_zero, List.set_cons_succ]
      refine take_at 21 42 (v := ?_) rfl rfl (by kernel_rfl) (by kernel_rfl) (by kernel_rfl) (Or.inl ⟨by rfl, ?_⟩) hHeld ?_
      rotate_left
      · intro w hSw; have f := hSw.cellOf (unhide X2) id; go_simp; with_reducible rfl
      simp only [Act.put, List.setIfInBounds_toArray, List.set_cons_zero, List.set_cons_succ]
      refine take_at 22 43 (v := ?_) rfl rfl (by kernel_rfl) (by kernel_rfl) (by kernel_rfl) (Or.inl ⟨by rfl, ?_⟩) hHeld ?_
      rotate_left
      · intro w hSw; go_simp; with_reducible rfl
      simp only [Act.put, List.setIfInBounds_toArray, List.set_cons_zero, List.set_cons_succ]
      refine wpAnyH_ready (rs := [23]) (by kernel_rfl) (by simp) ?_
      refine AllReadyH.cons rfl (fun K hK => ?_) AllReadyH.nil
      have d1 : wr.cell? ⟨L, q, none⟩ = some (.int .u64 (runS ((A.l k).t.take j) (A.l k).s q)) := by rw [cell_of_block (unhide HBL)]; exact tab_get _ _ _ p1
      have d2 : wr.frozen? ⟨L, q, none⟩ = false := unfrozen_of_block (unhide HBL) _
      generalize runS ((A.l k).t.take j) (A.l k).s q = old at *
      go_simp
      refine hK.out _ _ (Keeps.setCell_new (p := ⟨L, q, none⟩) (unhide HKR).drew (unhide HLW) _) (fun hNew => ?_)
      clear hK K hHeld d1 d2
      refine wpAnyH_done (by kernel_rfl) ?_ _
      refine NoPanic.normal ?_
      have HKN := hide hNew
      clear hNew
      go_wp2_with fail
      go_roundw
      case rel =>
        refine ⟨j + 1, by omega, by go_num, unhide HKN, ?_, ?_⟩
        · have : (wr.setCell ⟨L, q, none⟩ (.int .u64 v)).heap[R]? = wr.heap[R]? := heap_setCell_other _ _ _ _ (show R ≠ (⟨L, q, none⟩ : Addr).block from hLR)
          exact this.trans (unhide HBR)
        · rw [unhide HS]
          have h1 : wr.heap[L]? = some (.cells (tab 8 fun i => .int .u64 ((runS ((A.l k).t.take j) (A.l k).s) i)) 26 (0, 0)) := unhide HBL
          have h2 : (tab 8 fun i => .int .u64 (upd (runS ((A.l k).t.take j) (A.l k).s) q v i)) = (tab 8 fun i => .int .u64 ((runS ((A.l k).t.take j) (A.l k).s) i)).setIfInBounds q (.int .u64 v) := by
            rw [tab_set]; exact tab_ext fun i _ => by unfold upd; split <;> rfl
          show (wr.setCell ⟨L, q, none⟩ (.int .u64 v)).heap[L]? = some (.cells (tab 8 fun i => .int .u64 (upd (runS ((A.l k).t.take j) (A.l k).s) q v i)) 26 (0, 0))
          rw [h2, block_setCell h1]
      case measure => simp [intOf]; omega
    · obtain rfl : j = n := by omega
      obtain ⟨f, hf⟩ : ∃ f, f = runS ((A.l k).t.take j) (A.l k).s := ⟨_, rfl⟩
      rw [← hf] at HBL
      have HFE := hide hf
      clear hf
      have s8f : (Try.prog.info? 26).map (·.size) = some (lnV f).size := by rw [lnV_size]; exact lsize
      go_wp2_with (first | (refine wpList_load_row rfl 26 _ rfl L rfl _ _ _ _ (unhide HBL) Try.underlying26 rfl s8f ?_) | (refine wpList_store_row rfl 26 _ _ rfl R (lnV f) rfl rfl _ _ (unhide HBR) s8f (by rw [lnV_size, lnV_size]) (lnV_one _) ?_))
      refine bodyPost_ret (v := .agg (lnV f)) (results_cell_row Try.results59 _ _ R _ (lnV f) (0, 0) _ rfl (setRow_heap _ _ _ _ _ _ (unhide HBR)) Try.underlying26 rfl s8f) rfl ?_
      rw [← unhide HFE]
      exact ⟨rfl, Keeps.setRow (unhide HKR) (Or.inr (unhide HRW)) _⟩
end

end Go.Proofs.Ytmmgacpipcgkdaa
