/-
  For every number and every row of calls, NvmFuses returns true and leaves its arguments as they were: behind a fuse of n just n more steps are done, and then the power is off till a Crash. No condition.
-/
import Derived.Test.YtkbafneoffcecaaNTotal
import Derived.Test.YtkbafneoffcecaaLaw
import Derived.Test.YtkbafneoffcecaaRows
namespace Go.Proofs.Ytkbafneoffcecaa.nvmFuses
open Go.ChangeShapes Go.WideShapes Go.ChangeAt Go.RowKit Go.Joins
set_option linter.unusedVariables false
set_option linter.unusedSimpArgs false

structure Inv (k i : Nat) (A : Mm) : Prop where
  ok : A.ok i
  n : A.n = 64
  on : A.on = decide (i ≤ k)
  fuse : A.fuse = ((k - i : Nat) : Int)
  steps : A.steps = min i k
theorem Inv.may {k i : Nat} {A : Mm} (h : Inv k i A) : A.may = decide (i < k) := by
  unfold Mm.may
  rw [h.on, h.fuse, Bool.eq_iff_iff]
  simp only [Bool.and_eq_true, decide_eq_true_iff, ne_eq]
  omega
theorem Inv.step {k i : Nat} {A : Mm} (h : Inv k i A) (l : Nat → Ln) (hok : (A.step l).ok (i + 1)) : Inv k (i + 1) (A.step l) := by
  by_cases hlt : i < k
  · have e : A.step l = A.stepped l := by unfold Mm.step; rw [h.may, decide_eq_true hlt]; rfl
    rw [e] at hok ⊢
    refine ⟨hok, h.n, ?_, ?_, ?_⟩
    · show A.on = _
      rw [h.on, decide_eq_true (show i ≤ k by omega), decide_eq_true (show i + 1 ≤ k by omega)]
    · show (if A.fuse > 0 then A.fuse - 1 else A.fuse) = _
      rw [h.fuse]; split <;> omega
    · show A.steps + 1 = _
      rw [h.steps]; omega
  · have e : A.step l = A.off := by unfold Mm.step; rw [h.may, decide_eq_false hlt]; rfl
    rw [e] at hok ⊢
    refine ⟨hok, h.n, ?_, ?_, ?_⟩
    · show false = _
      rw [decide_eq_false (show ¬ i + 1 ≤ k by omega)]
    · show A.fuse = _
      rw [h.fuse]; omega
    · show A.steps = _
      rw [h.steps]; omega
theorem Inv.err {k i : Nat} {A : Mm} (h : Inv k i A) (hlt : i < k) : A.err = 0 := by unfold Mm.err; rw [h.may, decide_eq_true hlt]; rfl
theorem Inv.err' {k i : Nat} {A : Mm} (h : Inv k i A) (hlt : ¬ i < k) : A.err = 4 := by unfold Mm.err; rw [h.may, decide_eq_false hlt]; rfl
def a0 : Mm := Mm.new 64 fun _ _ => 0
theorem k0 : a0.ok 0 := ok_new (by decide) (by decide) (fun _ _ => ⟨by decide, by decide⟩)
theorem inv0 (k : Nat) (hk : k < 41) : Inv k 0 (a0.fused k) := ⟨ok_fused k0 _ ⟨by omega, by omega⟩, rfl, by simp [Mm.fused, a0, Mm.new], by simp only [Mm.fused]; split <;> omega, by simp [Mm.fused, a0, Mm.new]⟩

set_option maxRecDepth 100000 in
set_option maxHeartbeats 4000000 in
theorem walk (W : World) (z : Int) (a : Option Addr) (n cap : Nat) (o : Nat → OpV) (wz : (Lit.int .i64 z).wf = true) (hO : OpsAt W a n cap o) :
    Calls Try.prog 8 #[.int .i64 z, .slice a n cap] W fun e W' => e = .returned (.bool true) ∧ Below W.heap.size W W' := by
  have hz : In64 z := in64_wf wz
  obtain ⟨hn, hops⟩ := hO
  have HO := hide hops
  obtain ⟨k, hk⟩ : ∃ k, k = kindN z 41 := ⟨_, rfl⟩
  have hk41 : k < 41 := by rw [hk]; exact kindN_lt _ _ (by decide)
  have CZ : Hid (∀ w, Calls Try.prog 12 #[.int .i64 z, .int .i64 41] w fun e w' => e = .returned (.int .i64 (k : Int)) ∧ w' = w) := fun w => by rw [hk]; exact kind_any z hz 41 (by decide) (by decide) w
  clear hops wz hz hk
  go_enter Try.func8, Try.ntmps8
  go_wp2_with fail
  refine (shown_any W).mono ?_
  rintro e w0 ⟨rfl, hk0⟩
  go_wp2_with fail
  refine (new_any w0 64 (by decide) (by decide)).mono ?_
  intro e w1 hm
  obtain ⟨p, rfl, h0, -⟩ := made_has W hk0 hm (fun _ => False) (fun _ h => h.elim)
  have H0 : Hid (Has W w1 (fun _ => False) p a0) := h0
  clear hm h0 hk0
  go_wp2_with fail
  refine (unhide CZ _).mono ?_
  rintro e w1 ⟨rfl, rfl⟩
  clear CZ
  go_wp2_with fail
  refine ((unhide H0).fuse k).mono ?_
  rintro e w2 ⟨rfl, h1, -⟩
  have H1 := hide h1
  clear h1 H0
  go_wp2_with fail
  go_loopw [9, 10] (fun d j wr => ∃ i : Nat, i ≤ n ∧ i ≤ 60 ∧ j = .int .i64 i ∧ d = .int .i64 ((min i k : Nat) : Int) ∧ ∃ A, Has W wr (fun _ => False) p A ∧ Inv k i A) (fun _ j _ => n - (intOf j).toNat)
  case atStart => exact ⟨0, by omega, by omega, rfl, by rw [Nat.zero_min]; rfl, _, unhide H1, inv0 k hk41⟩
  case round =>
    clear H1
    obtain ⟨i, hi, hi60, rfl, rfl, A, hA, inv⟩ := hrel
    have HA := hide hA
    clear hA
    by_cases hlt : i < n ∧ i < 60
    · obtain ⟨hlt, hl6⟩ := hlt
      obtain ⟨x, off, rfl, hx⟩ : ∃ b off, a = some ⟨b, off, none⟩ ∧ ∀ i, i < n → OpAt W b (off + i * 6) (o i) := by
        rcases unhide HO with h | h
        · omega
        · exact h
      obtain ⟨hq, hqok⟩ := hx i hlt
      obtain ⟨q, hqe⟩ : ∃ q, q = o i := ⟨_, rfl⟩
      rw [← hqe] at hq hqok
      have X0 : Hid (W.cell? ⟨x, off + i * 6, none⟩ = some (.int .i64 q.kind)) := hq 0 _ rfl
      have X1 : Hid (W.cell? ⟨x, off + i * 6 + 1, none⟩ = some (.int .i64 q.core)) := hq 1 _ rfl
      have X2 : Hid (W.cell? ⟨x, off + i * 6 + 2, none⟩ = some (.int .i64 q.line)) := hq 2 _ rfl
      have X3 : Hid (W.cell? ⟨x, off + i * 6 + 3, none⟩ = some (.int .i64 q.word)) := hq 3 _ rfl
      have X4 : Hid (W.cell? ⟨x, off + i * 6 + 4, none⟩ = some (.int .u64 q.v)) := hq 4 _ rfl
      have QOK := hide hqok
      clear hx hqe hq hqok
      have hlt' : (i : Int) < (n : Int) := by omega
      have hl6' : (i : Int) < 60 := by omega
      have g0 := (unhide HA).keeps.cellOf (unhide X0) id
      obtain ⟨kd, hkd⟩ : ∃ kd, kd = kindN q.kind 3 := ⟨_, rfl⟩
      have hkd5 : kd < 3 := by rw [hkd]; exact kindN_lt _ _ (by decide)
      have CK : Hid (Calls Try.prog 12 #[.int .i64 q.kind, .int .i64 3] wr fun e w' => e = .returned (.int .i64 (kd : Int)) ∧ w' = wr) := by
        rw [hkd]; exact kind_any q.kind (unhide QOK).1 3 (by decide) (by decide) _
      clear hkd
      by_cases hik : i < k
      · have her := inv.err hik
        have hik' : (i : Int) < (k : Int) := by omega
        have hon1 : decide (i + 1 ≤ k) = true := decide_eq_true (by omega)
        have hst1 : min (i + 1) k = i + 1 := by omega
        have HMN : Hid (min (i + 1) k = i + 1) := hst1
        rw [show min i k = i by omega]
        rcases (show kd = 0 ∨ kd = 1 ∨ kd = 2 by omega) with rfl | rfl | rfl
        · go_wp2_with fail
          refine (unhide CK).mono ?_
          rintro e wr ⟨rfl, rfl⟩
          clear g0
          go_upto_region 14 with fail
          refine wp_region_noPanic ?_
          refine wp_region_held_drew (S := fun w' => Keeps (fun _ => False) W w') (by kernel_rfl) ((unhide HA).keeps.drew) (fun hHeld => ?_)
          refine take_at 0 46 (v := ?_) rfl rfl (by kernel_rfl) (by kernel_rfl) (by kernel_rfl) (Or.inl ⟨by rfl, ?_⟩) hHeld ?_
          rotate_left
          · intro w hSw; go_simp; with_reducible rfl
          simp only [Act.put, List.setIfInBounds_toArray, List.set_cons_zero, List.set_cons_succ]
          refine take_at 1 47 (v := ?_) rfl rfl (by kernel_rfl) (by kernel_rfl) (by kernel_rfl) (Or.inl ⟨by rfl, ?_⟩) hHeld ?_
          rotate_left
          · intro w hSw; go_simp; with_reducible rfl
          simp only [Act.put, List.setIfInBounds_toArray, List.set_cons_zero, List.set_cons_succ]
          refine take_at 2 48 (v := ?_) rfl rfl (by kernel_rfl) (by kernel_rfl) (by kernel_rfl) (Or.inl ⟨by rfl, ?_⟩) hHeld ?_
          rotate_left
          · intro w hSw; go_simp; with_reducible rfl
          simp only [Act.put, List.setIfInBounds_toArray, List.set_cons_zero, List.set_cons_succ]
          refine take_at 3 49 (v := ?_) rfl rfl (by kernel_rfl) (by kernel_rfl) (by kernel_rfl) (Or.inl ⟨by rfl, ?_⟩) hHeld ?_
          rotate_left
          · intro w hSw; go_simp; with_reducible rfl
          simp only [Act.put, List.setIfInBounds_toArray, List.set_cons_zero, List.set_cons_succ]
          refine take_at 4 50 (v := ?_) rfl rfl (by kernel_rfl) (by kernel_rfl) (by kernel_rfl) (Or.inl ⟨by rfl, ?_⟩) hHeld ?_
          rotate_left
          · intro w hSw; go_simp; with_reducible rfl
          simp only [Act.put, List.setIfInBounds_toArray, List.set_cons_zero, List.set_cons_succ]
          refine take_at 5 51 (v := ?_) rfl rfl (by kernel_rfl) (by kernel_rfl) (by kernel_rfl) (Or.inl ⟨by rfl, ?_⟩) hHeld ?_
          rotate_left
          · intro w hSw; have f := hSw.cellOf (unhide X2) id; go_simp; with_reducible rfl
          simp only [Act.put, List.setIfInBounds_toArray, List.set_cons_zero, List.set_cons_succ]
          refine take_at 7 53 (v := ?_) rfl rfl (by kernel_rfl) (by kernel_rfl) (by kernel_rfl) (Or.inl ⟨by rfl, ?_⟩) hHeld ?_
          rotate_left
          · intro w hSw; go_simp; with_reducible rfl
          simp only [Act.put, List.setIfInBounds_toArray, List.set_cons_zero, List.set_cons_succ]
          refine take_at 8 54 (v := ?_) rfl rfl (by kernel_rfl) (by kernel_rfl) (by kernel_rfl) (Or.inl ⟨by rfl, ?_⟩) hHeld ?_
          rotate_left
          · intro w hSw; go_simp; with_reducible rfl
          simp only [Act.put, List.setIfInBounds_toArray, List.set_cons_zero, List.set_cons_succ]
          refine take_at 9 55 (v := ?_) rfl rfl (by kernel_rfl) (by kernel_rfl) (by kernel_rfl) (Or.inl ⟨by rfl, ?_⟩) hHeld ?_
          rotate_left
          · intro w hSw; go_simp; with_reducible rfl
          simp only [Act.put, List.setIfInBounds_toArray, List.set_cons_zero, List.set_cons_succ]
          refine take_at 10 56 (v := ?_) rfl rfl (by kernel_rfl) (by kernel_rfl) (by kernel_rfl) (Or.inl ⟨by rfl, ?_⟩) hHeld ?_
          rotate_left
          · intro w hSw; go_simp; with_reducible rfl
          simp only [Act.put, List.setIfInBounds_toArray, List.set_cons_zero, List.set_cons_succ]
          refine take_at 11 57 (v := ?_) rfl rfl (by kernel_rfl) (by kernel_rfl) (by kernel_rfl) (Or.inl ⟨by rfl, ?_⟩) hHeld ?_
          rotate_left
          · intro w hSw; have f := hSw.cellOf (unhide X3) id; go_simp; with_reducible rfl
          simp only [Act.put, List.setIfInBounds_toArray, List.set_cons_zero, List.set_cons_succ]
          refine take_at 13 59 (v := ?_) rfl rfl (by kernel_rfl) (by kernel_rfl) (by kernel_rfl) (Or.inl ⟨by rfl, ?_⟩) hHeld ?_
          rotate_left
          · intro w hSw; go_simp; with_reducible rfl
          simp only [Act.put, List.setIfInBounds_toArray, List.set_cons_zero, List.set_cons_succ]
          refine take_at 14 60 (v := ?_) rfl rfl (by kernel_rfl) (by kernel_rfl) (by kernel_rfl) (Or.inl ⟨by rfl, ?_⟩) hHeld ?_
          rotate_left
          · intro w hSw; go_simp; with_reducible rfl
          simp only [Act.put, List.setIfInBounds_toArray, List.set_cons_zero, List.set_cons_succ]
          refine take_at 15 61 (v := ?_) rfl rfl (by kernel_rfl) (by kernel_rfl) (by kernel_rfl) (Or.inl ⟨by rfl, ?_⟩) hHeld ?_
          rotate_left
          · intro w hSw; go_simp; with_reducible rfl
          simp only [Act.put, List.setIfInBounds_toArray, List.set_cons_zero, List.set_cons_succ]
          refine take_at 16 62 (v := ?_) rfl rfl (by kernel_rfl) (by kernel_rfl) (by kernel_rfl) (Or.inl ⟨by rfl, ?_⟩) hHeld ?_
          rotate_left
          · intro w hSw; go_simp; with_reducible rfl
          simp only [Act.put, List.setIfInBounds_toArray, List.set_cons_zero, List.set_cons_succ]
          refine take_at 17 63 (v := ?_) rfl rfl (by kernel_rfl) (by kernel_rfl) (by kernel_rfl) (Or.inl ⟨by rfl, ?_⟩) hHeld ?_
          rotate_left
          · intro w hSw; have f := hSw.cellOf (unhide X4) id; go_simp; with_reducible rfl
          simp only [Act.put, List.setIfInBounds_toArray, List.set_cons_zero, List.set_cons_succ]
          refine wpAnyH_ready (rs := [6]) (by kernel_rfl) (by simp) ?_
          refine AllReadyH.cons rfl (fun K hK => ?_) AllReadyH.nil
          go_simp
          refine (kind_any q.line (unhide QOK).2.2.1 64 (by decide) (by decide) _).mono ?_
          rintro e w' ⟨rfl, rfl⟩
          go_wp2_with fail
          refine hK.out _ _ hHeld (fun hNew => ?_)
          clear hK K hNew
          refine wpAnyH_ready (rs := [12]) (by kernel_rfl) (by simp) ?_
          refine AllReadyH.cons rfl (fun K hK => ?_) AllReadyH.nil
          go_simp
          refine (kind_any q.word (unhide QOK).2.2.2.1 8 (by decide) (by decide) _).mono ?_
          rintro e w' ⟨rfl, rfl⟩
          go_wp2_with fail
          refine hK.out _ _ hHeld (fun hNew => ?_)
          clear hK K hNew
          refine wpAnyH_ready (rs := [18]) (by kernel_rfl) (by simp) ?_
          refine AllReadyH.cons rfl (fun K hK => ?_) AllReadyH.nil
          go_simp
          refine ((unhide HA).drew.store (ok_mono inv.ok (by omega)) _ _ (kindN q.line 64) (kindN q.word 8) rfl rfl (by rw [inv.n]; exact kindN_lt _ _ (by decide)) (kindN_lt _ _ (by decide)) q.v).mono ?_
          rintro e w9 ⟨rfl, h1, -⟩
          have H1 := hide h1
          clear h1
          rw [her]
          go_wp2_with fail
          refine hK.out _ _ (unhide H1).keeps (fun hNew => ?_)
          clear hK K hHeld
          have hHeld := hNew
          clear hNew
          refine take_at 19 11 (v := ?_) rfl rfl (by kernel_rfl) (by kernel_rfl) (by kernel_rfl) (Or.inl ⟨by rfl, ?_⟩) hHeld ?_
          rotate_left
          · intro w hSw; go_simp; with_reducible rfl
          simp only [Act.put, List.setIfInBounds_toArray, List.set_cons_zero, List.set_cons_succ]
          refine wpAnyH_done (by kernel_rfl) ?_ _
          refine NoPanic.normal ?_
          clear hHeld
          have inv1 := inv.step _ (ok_store inv.ok (kindN q.line 64) (kindN q.word 8) q.v (kindN_lt _ _ (by decide)) (unhide QOK).2.2.2.2.1)
          obtain ⟨A1, hA1⟩ : ∃ A1, A1 = A.store (kindN q.line 64) (kindN q.word 8) q.v := ⟨_, rfl⟩
          rw [show A.step _ = A1 from hA1.symm] at inv1
          rw [← hA1] at H1
          clear hA1 HA CK her inv
          have ON1 : Hid (Calls Try.prog 19 #[.pointer (some ⟨p, 0, none⟩)] w9 fun e w' => e = .returned (.bool (decide (i + 1 ≤ k))) ∧ w' = w9) := by rw [← inv1.on]; exact (unhide H1).isOn
          have ST1 : Hid (Calls Try.prog 20 #[.pointer (some ⟨p, 0, none⟩)] w9 fun e w' => e = .returned (.int .i64 ((min (i + 1) k : Nat) : Int)) ∧ w' = w9) := by rw [← inv1.steps]; exact (unhide H1).steps
          rw [hon1, hst1] at *
          go_wp2_with (first | (go_at_call 19; refine (unhide ON1).mono ?_; rintro e w9 ⟨rfl, rfl⟩) | (go_at_call 20; refine (unhide ST1).mono ?_; rintro e w9 ⟨rfl, rfl⟩))
          go_roundw
          case rel => exact ⟨i + 1, by omega, by omega, by go_num, by first | go_num | (congr 1; omega), A1, unhide H1, inv1⟩
          case measure => simp [intOf]; omega
        · go_wp2_with fail
          refine (unhide CK).mono ?_
          rintro e wr ⟨rfl, rfl⟩
          clear g0
          go_upto_region 16 with fail
          refine wp_region_noPanic ?_
          refine wp_region_held_drew (S := fun w' => Keeps (fun _ => False) W w') (by kernel_rfl) ((unhide HA).keeps.drew) (fun hHeld => ?_)
          refine take_at 0 67 (v := ?_) rfl rfl (by kernel_rfl) (by kernel_rfl) (by kernel_rfl) (Or.inl ⟨by rfl, ?_⟩) hHeld ?_
          rotate_left
          · intro w hSw; go_simp; with_reducible rfl
          simp only [Act.put, List.setIfInBounds_toArray, List.set_cons_zero, List.set_cons_succ]
          refine take_at 1 68 (v := ?_) rfl rfl (by kernel_rfl) (by kernel_rfl) (by kernel_rfl) (Or.inl ⟨by rfl, ?_⟩) hHeld ?_
          rotate_left
          · intro w hSw; go_simp; with_reducible rfl
          simp only [Act.put, List.setIfInBounds_toArray, List.set_cons_zero, List.set_cons_succ]
          refine take_at 2 69 (v := ?_) rfl rfl (by kernel_rfl) (by kernel_rfl) (by kernel_rfl) (Or.inl ⟨by rfl, ?_⟩) hHeld ?_
          rotate_left
          · intro w hSw; go_simp; with_reducible rfl
          simp only [Act.put, List.setIfInBounds_toArray, List.set_cons_zero, List.set_cons_succ]
          refine take_at 3 70 (v := ?_) rfl rfl (by kernel_rfl) (by kernel_rfl) (by kernel_rfl) (Or.inl ⟨by rfl, ?_⟩) hHeld ?_
          rotate_left
          · intro w hSw; go_simp; with_reducible rfl
          simp only [Act.put, List.setIfInBounds_toArray, List.set_cons_zero, List.set_cons_succ]
          refine take_at 4 71 (v := ?_) rfl rfl (by kernel_rfl) (by kernel_rfl) (by kernel_rfl) (Or.inl ⟨by rfl, ?_⟩) hHeld ?_
          rotate_left
          · intro w hSw; go_simp; with_reducible rfl
          simp only [Act.put, List.setIfInBounds_toArray, List.set_cons_zero, List.set_cons_succ]
          refine take_at 5 72 (v := ?_) rfl rfl (by kernel_rfl) (by kernel_rfl) (by kernel_rfl) (Or.inl ⟨by rfl, ?_⟩) hHeld ?_
          rotate_left
          · intro w hSw; have f := hSw.cellOf (unhide X1) id; go_simp; with_reducible rfl
          simp only [Act.put, List.setIfInBounds_toArray, List.set_cons_zero, List.set_cons_succ]
          refine take_at 7 74 (v := ?_) rfl rfl (by kernel_rfl) (by kernel_rfl) (by kernel_rfl) (Or.inl ⟨by rfl, ?_⟩) hHeld ?_
          rotate_left
          · intro w hSw; go_simp; with_reducible rfl
          simp only [Act.put, List.setIfInBounds_toArray, List.set_cons_zero, List.set_cons_succ]
          refine take_at 8 75 (v := ?_) rfl rfl (by kernel_rfl) (by kernel_rfl) (by kernel_rfl) (Or.inl ⟨by rfl, ?_⟩) hHeld ?_
          rotate_left
          · intro w hSw; go_simp; with_reducible rfl
          simp only [Act.put, List.setIfInBounds_toArray, List.set_cons_zero, List.set_cons_succ]
          refine take_at 9 76 (v := ?_) rfl rfl (by kernel_rfl) (by kernel_rfl) (by kernel_rfl) (Or.inl ⟨by rfl, ?_⟩) hHeld ?_
          rotate_left
          · intro w hSw; go_simp; with_reducible rfl
          simp only [Act.put, List.setIfInBounds_toArray, List.set_cons_zero, List.set_cons_succ]
          refine take_at 10 77 (v := ?_) rfl rfl (by kernel_rfl) (by kernel_rfl) (by kernel_rfl) (Or.inl ⟨by rfl, ?_⟩) hHeld ?_
          rotate_left
          · intro w hSw; go_simp; with_reducible rfl
          simp only [Act.put, List.setIfInBounds_toArray, List.set_cons_zero, List.set_cons_succ]
          refine take_at 11 78 (v := ?_) rfl rfl (by kernel_rfl) (by kernel_rfl) (by kernel_rfl) (Or.inl ⟨by rfl, ?_⟩) hHeld ?_
          rotate_left
          · intro w hSw; have f := hSw.cellOf (unhide X2) id; go_simp; with_reducible rfl
          simp only [Act.put, List.setIfInBounds_toArray, List.set_cons_zero, List.set_cons_succ]
          refine wpAnyH_ready (rs := [6]) (by kernel_rfl) (by simp) ?_
          refine AllReadyH.cons rfl (fun K hK => ?_) AllReadyH.nil
          go_simp
          refine (kind_any q.core (unhide QOK).2.1 8 (by decide) (by decide) _).mono ?_
          rintro e w' ⟨rfl, rfl⟩
          go_wp2_with fail
          refine hK.out _ _ hHeld (fun hNew => ?_)
          clear hK K hNew
          refine wpAnyH_ready (rs := [12]) (by kernel_rfl) (by simp) ?_
          refine AllReadyH.cons rfl (fun K hK => ?_) AllReadyH.nil
          go_simp
          refine (kind_any q.line (unhide QOK).2.2.1 64 (by decide) (by decide) _).mono ?_
          rintro e w' ⟨rfl, rfl⟩
          go_wp2_with fail
          refine hK.out _ _ hHeld (fun hNew => ?_)
          clear hK K hNew
          refine wpAnyH_ready (rs := [13]) (by kernel_rfl) (by simp) ?_
          refine AllReadyH.cons rfl (fun K hK => ?_) AllReadyH.nil
          go_simp
          refine ((unhide HA).drew.flush (ok_mono inv.ok (by omega)) _ _ (kindN q.core 8) (kindN q.line 64) rfl rfl (kindN_lt _ _ (by decide)) (by rw [inv.n]; exact kindN_lt _ _ (by decide))).mono ?_
          rintro e w9 ⟨rfl, h1, -⟩
          have H1 := hide h1
          clear h1
          rw [her]
          go_wp2_with fail
          refine hK.out _ _ (unhide H1).keeps (fun hNew => ?_)
          clear hK K hHeld
          have hHeld := hNew
          clear hNew
          refine take_at 14 11 (v := ?_) rfl rfl (by kernel_rfl) (by kernel_rfl) (by kernel_rfl) (Or.inl ⟨by rfl, ?_⟩) hHeld ?_
          rotate_left
          · intro w hSw; go_simp; with_reducible rfl
          simp only [Act.put, List.setIfInBounds_toArray, List.set_cons_zero, List.set_cons_succ]
          refine wpAnyH_done (by kernel_rfl) ?_ _
          refine NoPanic.normal ?_
          clear hHeld
          have inv1 := inv.step _ (ok_flush inv.ok (kindN q.core 8) (kindN q.line 64))
          obtain ⟨A1, hA1⟩ : ∃ A1, A1 = A.flush (kindN q.core 8) (kindN q.line 64) := ⟨_, rfl⟩
          rw [show A.step _ = A1 from hA1.symm] at inv1
          rw [← hA1] at H1
          clear hA1 HA CK her inv
          have ON1 : Hid (Calls Try.prog 19 #[.pointer (some ⟨p, 0, none⟩)] w9 fun e w' => e = .returned (.bool (decide (i + 1 ≤ k))) ∧ w' = w9) := by rw [← inv1.on]; exact (unhide H1).isOn
          have ST1 : Hid (Calls Try.prog 20 #[.pointer (some ⟨p, 0, none⟩)] w9 fun e w' => e = .returned (.int .i64 ((min (i + 1) k : Nat) : Int)) ∧ w' = w9) := by rw [← inv1.steps]; exact (unhide H1).steps
          rw [hon1, hst1] at *
          go_wp2_with (first | (go_at_call 19; refine (unhide ON1).mono ?_; rintro e w9 ⟨rfl, rfl⟩) | (go_at_call 20; refine (unhide ST1).mono ?_; rintro e w9 ⟨rfl, rfl⟩))
          go_roundw
          case rel => exact ⟨i + 1, by omega, by omega, by go_num, by first | go_num | (congr 1; omega), A1, unhide H1, inv1⟩
          case measure => simp [intOf]; omega
        · go_wp2_with fail
          refine (unhide CK).mono ?_
          rintro e wr ⟨rfl, rfl⟩
          clear g0
          have g1 := (unhide HA).keeps.cellOf (unhide X1) id
          go_wp2_with fail
          refine (kind_any q.core (unhide QOK).2.1 8 (by decide) (by decide) _).mono ?_
          rintro e wr ⟨rfl, rfl⟩
          go_wp2_with fail
          refine ((unhide HA).fence (ok_mono inv.ok (by omega)) _ (kindN q.core 8) rfl (kindN_lt _ _ (by decide))).mono ?_
          rintro e w9 ⟨rfl, h1, -⟩
          have H1 := hide h1
          clear h1 g1
          rw [her]
          have inv1 := inv.step _ (ok_fence inv.ok (kindN q.core 8))
          obtain ⟨A1, hA1⟩ : ∃ A1, A1 = A.fence (kindN q.core 8) := ⟨_, rfl⟩
          rw [show A.step _ = A1 from hA1.symm] at inv1
          rw [← hA1] at H1
          clear hA1 HA CK her inv
          have ON1 : Hid (Calls Try.prog 19 #[.pointer (some ⟨p, 0, none⟩)] w9 fun e w' => e = .returned (.bool (decide (i + 1 ≤ k))) ∧ w' = w9) := by rw [← inv1.on]; exact (unhide H1).isOn
          have ST1 : Hid (Calls Try.prog 20 #[.pointer (some ⟨p, 0, none⟩)] w9 fun e w' => e = .returned (.int .i64 ((min (i + 1) k : Nat) : Int)) ∧ w' = w9) := by rw [← inv1.steps]; exact (unhide H1).steps
          rw [hon1, hst1] at *
          go_wp2_with (first | (go_at_call 19; refine (unhide ON1).mono ?_; rintro e w9 ⟨rfl, rfl⟩) | (go_at_call 20; refine (unhide ST1).mono ?_; rintro e w9 ⟨rfl, rfl⟩))
          go_roundw
          case rel => exact ⟨i + 1, by omega, by omega, by go_num, by first | go_num | (congr 1; omega), A1, unhide H1, inv1⟩
          case measure => simp [intOf]; omega
      · have her := inv.err' hik
        have hik' : ¬ ((i : Int) < (k : Int)) := by omega
        have hon1 : decide (i + 1 ≤ k) = false := decide_eq_false (by omega)
        have hst1 : min (i + 1) k = k := by omega
        have HMN : Hid (min (i + 1) k = k) := hst1
        rw [show min i k = k by omega]
        rcases (show kd = 0 ∨ kd = 1 ∨ kd = 2 by omega) with rfl | rfl | rfl
        · go_wp2_with fail
          refine (unhide CK).mono ?_
          rintro e wr ⟨rfl, rfl⟩
          clear g0
          go_upto_region 14 with fail
          refine wp_region_noPanic ?_
          refine wp_region_held_drew (S := fun w' => Keeps (fun _ => False) W w') (by kernel_rfl) ((unhide HA).keeps.drew) (fun hHeld => ?_)
          refine take_at 0 46 (v := ?_) rfl rfl (by kernel_rfl) (by kernel_rfl) (by kernel_rfl) (Or.inl ⟨by rfl, ?_⟩) hHeld ?_
          rotate_left
          · intro w hSw; go_simp; with_reducible rfl
          simp only [Act.put, List.setIfInBounds_toArray, List.set_cons_zero, List.set_cons_succ]
          refine take_at 1 47 (v := ?_) rfl rfl (by kernel_rfl) (by kernel_rfl) (by kernel_rfl) (Or.inl ⟨by rfl, ?_⟩) hHeld ?_
          rotate_left
          · intro w hSw; go_simp; with_reducible rfl
          simp only [Act.put, List.setIfInBounds_toArray, List.set_cons_zero, List.set_cons_succ]
          refine take_at 2 48 (v := ?_) rfl rfl (by kernel_rfl) (by kernel_rfl) (by kernel_rfl) (Or.inl ⟨by rfl, ?_⟩) hHeld ?_
          rotate_left
          · intro w hSw; go_simp; with_reducible rfl
          simp only [Act.put, List.setIfInBounds_toArray, List.set_cons_zero, List.set_cons_succ]
          refine take_at 3 49 (v := ?_) rfl rfl (by kernel_rfl) (by kernel_rfl) (by kernel_rfl) (Or.inl ⟨by rfl, ?_⟩) hHeld ?_
          rotate_left
          · intro w hSw; go_simp; with_reducible rfl
          simp only [Act.put, List.setIfInBounds_toArray, List.set_cons_zero, List.set_cons_succ]
          refine take_at 4 50 (v := ?_) rfl rfl (by kernel_rfl) (by kernel_rfl) (by kernel_rfl) (Or.inl ⟨by rfl, ?_⟩) hHeld ?_
          rotate_left
          · intro w hSw; go_simp; with_reducible rfl
          simp only [Act.put, List.setIfInBounds_toArray, List.set_cons_zero, List.set_cons_succ]
          refine take_at 5 51 (v := ?_) rfl rfl (by kernel_rfl) (by kernel_rfl) (by kernel_rfl) (Or.inl ⟨by rfl, ?_⟩) hHeld ?_
          rotate_left
          · intro w hSw; have f := hSw.cellOf (unhide X2) id; go_simp; with_reducible rfl
          simp only [Act.put, List.setIfInBounds_toArray, List.set_cons_zero, List.set_cons_succ]
          refine take_at 7 53 (v := ?_) rfl rfl (by kernel_rfl) (by kernel_rfl) (by kernel_rfl) (Or.inl ⟨by rfl, ?_⟩) hHeld ?_
          rotate_left
          · intro w hSw; go_simp; with_reducible rfl
          simp only [Act.put, List.setIfInBounds_toArray, List.set_cons_zero, List.set_cons_succ]
          refine take_at 8 54 (v := ?_) rfl rfl (by kernel_rfl) (by kernel_rfl) (by kernel_rfl) (Or.inl ⟨by rfl, ?_⟩) hHeld ?_
          rotate_left
          · intro w hSw; go_simp; with_reducible rfl
          simp only [Act.put, List.setIfInBounds_toArray, List.set_cons_zero, List.set_cons_succ]
          refine take_at 9 55 (v := ?_) rfl rfl (by kernel_rfl) (by kernel_rfl) (by kernel_rfl) (Or.inl ⟨by rfl, ?_⟩) hHeld ?_
          rotate_left
          · intro w hSw; go_simp; with_reducible rfl
          simp only [Act.put, List.setIfInBounds_toArray, List.set_cons_zero, List.set_cons_succ]
          refine take_at 10 56 (v := ?_) rfl rfl (by kernel_rfl) (by kernel_rfl) (by kernel_rfl) (Or.inl ⟨by rfl, ?_⟩) hHeld ?_
          rotate_left
          · intro w hSw; go_simp; with_reducible rfl
          simp only [Act.put, List.setIfInBounds_toArray, List.set_cons_zero, List.set_cons_succ]
          refine take_at 11 57 (v := ?_) rfl rfl (by kernel_rfl) (by kernel_rfl) (by kernel_rfl) (Or.inl ⟨by rfl, ?_⟩) hHeld ?_
          rotate_left
          · intro w hSw; have f := hSw.cellOf (unhide X3) id; go_simp; with_reducible rfl
          simp only [Act.put, List.setIfInBounds_toArray, List.set_cons_zero, List.set_cons_succ]
          refine take_at 13 59 (v := ?_) rfl rfl (by kernel_rfl) (by kernel_rfl) (by kernel_rfl) (Or.inl ⟨by rfl, ?_⟩) hHeld ?_
          rotate_left
          · intro w hSw; go_simp; with_reducible rfl
          simp only [Act.put, List.setIfInBounds_toArray, List.set_cons_zero, List.set_cons_succ]
          refine take_at 14 60 (v := ?_) rfl rfl (by kernel_rfl) (by kernel_rfl) (by kernel_rfl) (Or.inl ⟨by rfl, ?_⟩) hHeld ?_
          rotate_left
          · intro w hSw; go_simp; with_reducible rfl
          simp only [Act.put, List.setIfInBounds_toArray, List.set_cons_zero, List.set_cons_succ]
          refine take_at 15 61 (v := ?_) rfl rfl (by kernel_rfl) (by kernel_rfl) (by kernel_rfl) (Or.inl ⟨by rfl, ?_⟩) hHeld ?_
          rotate_left
          · intro w hSw; go_simp; with_reducible rfl
          simp only [Act.put, List.setIfInBounds_toArray, List.set_cons_zero, List.set_cons_succ]
          refine take_at 16 62 (v := ?_) rfl rfl (by kernel_rfl) (by kernel_rfl) (by kernel_rfl) (Or.inl ⟨by rfl, ?_⟩) hHeld ?_
          rotate_left
          · intro w hSw; go_simp; with_reducible rfl
          simp only [Act.put, List.setIfInBounds_toArray, List.set_cons_zero, List.set_cons_succ]
          refine take_at 17 63 (v := ?_) rfl rfl (by kernel_rfl) (by kernel_rfl) (by kernel_rfl) (Or.inl ⟨by rfl, ?_⟩) hHeld ?_
          rotate_left
          · intro w hSw; have f := hSw.cellOf (unhide X4) id; go_simp; with_reducible rfl
          simp only [Act.put, List.setIfInBounds_toArray, List.set_cons_zero, List.set_cons_succ]
          refine wpAnyH_ready (rs := [6]) (by kernel_rfl) (by simp) ?_
          refine AllReadyH.cons rfl (fun K hK => ?_) AllReadyH.nil
          go_simp
          refine (kind_any q.line (unhide QOK).2.2.1 64 (by decide) (by decide) _).mono ?_
          rintro e w' ⟨rfl, rfl⟩
          go_wp2_with fail
          refine hK.out _ _ hHeld (fun hNew => ?_)
          clear hK K hNew
          refine wpAnyH_ready (rs := [12]) (by kernel_rfl) (by simp) ?_
          refine AllReadyH.cons rfl (fun K hK => ?_) AllReadyH.nil
          go_simp
          refine (kind_any q.word (unhide QOK).2.2.2.1 8 (by decide) (by decide) _).mono ?_
          rintro e w' ⟨rfl, rfl⟩
          go_wp2_with fail
          refine hK.out _ _ hHeld (fun hNew => ?_)
          clear hK K hNew
          refine wpAnyH_ready (rs := [18]) (by kernel_rfl) (by simp) ?_
          refine AllReadyH.cons rfl (fun K hK => ?_) AllReadyH.nil
          go_simp
          refine ((unhide HA).drew.store (ok_mono inv.ok (by omega)) _ _ (kindN q.line 64) (kindN q.word 8) rfl rfl (by rw [inv.n]; exact kindN_lt _ _ (by decide)) (kindN_lt _ _ (by decide)) q.v).mono ?_
          rintro e w9 ⟨rfl, h1, -⟩
          have H1 := hide h1
          clear h1
          rw [her]
          go_wp2_with fail
          refine hK.out _ _ (unhide H1).keeps (fun hNew => ?_)
          clear hK K hHeld
          have hHeld := hNew
          clear hNew
          refine take_at 19 11 (v := ?_) rfl rfl (by kernel_rfl) (by kernel_rfl) (by kernel_rfl) (Or.inl ⟨by rfl, ?_⟩) hHeld ?_
          rotate_left
          · intro w hSw; go_simp; with_reducible rfl
          simp only [Act.put, List.setIfInBounds_toArray, List.set_cons_zero, List.set_cons_succ]
          refine wpAnyH_done (by kernel_rfl) ?_ _
          refine NoPanic.normal ?_
          clear hHeld
          have inv1 := inv.step _ (ok_store inv.ok (kindN q.line 64) (kindN q.word 8) q.v (kindN_lt _ _ (by decide)) (unhide QOK).2.2.2.2.1)
          obtain ⟨A1, hA1⟩ : ∃ A1, A1 = A.store (kindN q.line 64) (kindN q.word 8) q.v := ⟨_, rfl⟩
          rw [show A.step _ = A1 from hA1.symm] at inv1
          rw [← hA1] at H1
          clear hA1 HA CK her inv
          have ON1 : Hid (Calls Try.prog 19 #[.pointer (some ⟨p, 0, none⟩)] w9 fun e w' => e = .returned (.bool (decide (i + 1 ≤ k))) ∧ w' = w9) := by rw [← inv1.on]; exact (unhide H1).isOn
          have ST1 : Hid (Calls Try.prog 20 #[.pointer (some ⟨p, 0, none⟩)] w9 fun e w' => e = .returned (.int .i64 ((min (i + 1) k : Nat) : Int)) ∧ w' = w9) := by rw [← inv1.steps]; exact (unhide H1).steps
          rw [hon1, hst1] at *
          go_wp2_with (first | (go_at_call 19; refine (unhide ON1).mono ?_; rintro e w9 ⟨rfl, rfl⟩) | (go_at_call 20; refine (unhide ST1).mono ?_; rintro e w9 ⟨rfl, rfl⟩))
          go_roundw
          case rel => exact ⟨i + 1, by omega, by omega, by go_num, by first | go_num | (congr 1; omega), A1, unhide H1, inv1⟩
          case measure => simp [intOf]; omega
        · go_wp2_with fail
          refine (unhide CK).mono ?_
          rintro e wr ⟨rfl, rfl⟩
          clear g0
          go_upto_region 16 with fail
          refine wp_region_noPanic ?_
          refine wp_region_held_drew (S := fun w' => Keeps (fun _ => False) W w') (by kernel_rfl) ((unhide HA).keeps.drew) (fun hHeld => ?_)
          refine take_at 0 67 (v := ?_) rfl rfl (by kernel_rfl) (by kernel_rfl) (by kernel_rfl) (Or.inl ⟨by rfl, ?_⟩) hHeld ?_
          rotate_left
          · intro w hSw; go_simp; with_reducible rfl
          simp only [Act.put, List.setIfInBounds_toArray, List.set_cons_zero, List.set_cons_succ]
          refine take_at 1 68 (v := ?_) rfl rfl (by kernel_rfl) (by kernel_rfl) (by kernel_rfl) (Or.inl ⟨by rfl, ?_⟩) hHeld ?_
          rotate_left
          · intro w hSw; go_simp; with_reducible rfl
          simp only [Act.put, List.setIfInBounds_toArray, List.set_cons_zero, List.set_cons_succ]
          refine take_at 2 69 (v := ?_) rfl rfl (by kernel_rfl) (by kernel_rfl) (by kernel_rfl) (Or.inl ⟨by rfl, ?_⟩) hHeld ?_
          rotate_left
          · intro w hSw; go_simp; with_reducible rfl
          simp only [Act.put, List.setIfInBounds_toArray, List.set_cons_zero, List.set_cons_succ]
          refine take_at 3 70 (v := ?_) rfl rfl (by kernel_rfl) (by kernel_rfl) (by kernel_rfl) (Or.inl ⟨by rfl, ?_⟩) hHeld ?_
          rotate_left
          · intro w hSw; go_simp; with_reducible rfl
          simp only [Act.put, List.setIfInBounds_toArray, List.set_cons_zero, List.set_cons_succ]
          refine take_at 4 71 (v := ?_) rfl rfl (by kernel_rfl) (by kernel_rfl) (by kernel_rfl) (Or.inl ⟨by rfl, ?_⟩) hHeld ?_
          rotate_left
          · intro w hSw; go_simp; with_reducible rfl
          simp only [Act.put, List.setIfInBounds_toArray, List.set_cons_zero, List.set_cons_succ]
          refine take_at 5 72 (v := ?_) rfl rfl (by kernel_rfl) (by kernel_rfl) (by kernel_rfl) (Or.inl ⟨by rfl, ?_⟩) hHeld ?_
          rotate_left
          · intro w hSw; have f := hSw.cellOf (unhide X1) id; go_simp; with_reducible rfl
          simp only [Act.put, List.setIfInBounds_toArray, List.set_cons_zero, List.set_cons_succ]
          refine take_at 7 74 (v := ?_) rfl rfl (by kernel_rfl) (by kernel_rfl) (by kernel_rfl) (Or.inl ⟨by rfl, ?_⟩) hHeld ?_
          rotate_left
          · intro w hSw; go_simp; with_reducible rfl
          simp only [Act.put, List.setIfInBounds_toArray, List.set_cons_zero, List.set_cons_succ]
          refine take_at 8 75 (v := ?_) rfl rfl (by kernel_rfl) (by kernel_rfl) (by kernel_rfl) (Or.inl ⟨by rfl, ?_⟩) hHeld ?_
          rotate_left
          · intro w hSw; go_simp; with_reducible rfl
          simp only [Act.put, List.setIfInBounds_toArray, List.set_cons_zero, List.set_cons_succ]
          refine take_at 9 76 (v := ?_) rfl rfl (by kernel_rfl) (by kernel_rfl) (by kernel_rfl) (Or.inl ⟨by rfl, ?_⟩) hHeld ?_
          rotate_left
          · intro w hSw; go_simp; with_reducible rfl
          simp only [Act.put, List.setIfInBounds_toArray, List.set_cons_zero, List.set_cons_succ]
          refine take_at 10 77 (v := ?_) rfl rfl (by kernel_rfl) (by kernel_rfl) (by kernel_rfl) (Or.inl ⟨by rfl, ?_⟩) hHeld ?_
          rotate_left
          · intro w hSw; go_simp; with_reducible rfl
          simp only [Act.put, List.setIfInBounds_toArray, List.set_cons_zero, List.set_cons_succ]
          refine take_at 11 78 (v := ?_) rfl rfl (by kernel_rfl) (by kernel_rfl) (by kernel_rfl) (Or.inl ⟨by rfl, ?_⟩) hHeld ?_
          rotate_left
          · intro w hSw; have f := hSw.cellOf (unhide X2) id; go_simp; with_reducible rfl
          simp only [Act.put, List.setIfInBounds_toArray, List.set_cons_zero, List.set_cons_succ]
          refine wpAnyH_ready (rs := [6]) (by kernel_rfl) (by simp) ?_
          refine AllReadyH.cons rfl (fun K hK => ?_) AllReadyH.nil
          go_simp
          refine (kind_any q.core (unhide QOK).2.1 8 (by decide) (by decide) _).mono ?_
          rintro e w' ⟨rfl, rfl⟩
          go_wp2_with fail
          refine hK.out _ _ hHeld (fun hNew => ?_)
          clear hK K hNew
          refine wpAnyH_ready (rs := [12]) (by kernel_rfl) (by simp) ?_
          refine AllReadyH.cons rfl (fun K hK => ?_) AllReadyH.nil
          go_simp
          refine (kind_any q.line (unhide QOK).2.2.1 64 (by decide) (by decide) _).mono ?_
          rintro e w' ⟨rfl, rfl⟩
          go_wp2_with fail
          refine hK.out _ _ hHeld (fun hNew => ?_)
          clear hK K hNew
          refine wpAnyH_ready (rs := [13]) (by kernel_rfl) (by simp) ?_
          refine AllReadyH.cons rfl (fun K hK => ?_) AllReadyH.nil
          go_simp
          refine ((unhide HA).drew.flush (ok_mono inv.ok (by omega)) _ _ (kindN q.core 8) (kindN q.line 64) rfl rfl (kindN_lt _ _ (by decide)) (by rw [inv.n]; exact kindN_lt _ _ (by decide))).mono ?_
          rintro e w9 ⟨rfl, h1, -⟩
          have H1 := hide h1
          clear h1
          rw [her]
          go_wp2_with fail
          refine hK.out _ _ (unhide H1).keeps (fun hNew => ?_)
          clear hK K hHeld
          have hHeld := hNew
          clear hNew
          refine take_at 14 11 (v := ?_) rfl rfl (by kernel_rfl) (by kernel_rfl) (by kernel_rfl) (Or.inl ⟨by rfl, ?_⟩) hHeld ?_
          rotate_left
          · intro w hSw; go_simp; with_reducible rfl
          simp only [Act.put, List.setIfInBounds_toArray, List.set_cons_zero, List.set_cons_succ]
          refine wpAnyH_done (by kernel_rfl) ?_ _
          refine NoPanic.normal ?_
          clear hHeld
          have inv1 := inv.step _ (ok_flush inv.ok (kindN q.core 8) (kindN q.line 64))
          obtain ⟨A1, hA1⟩ : ∃ A1, A1 = A.flush (kindN q.core 8) (kindN q.line 64) := ⟨_, rfl⟩
          rw [show A.step _ = A1 from hA1.symm] at inv1
          rw [← hA1] at H1
          clear hA1 HA CK her inv
          have ON1 : Hid (Calls Try.prog 19 #[.pointer (some ⟨p, 0, none⟩)] w9 fun e w' => e = .returned (.bool (decide (i + 1 ≤ k))) ∧ w' = w9) := by rw [← inv1.on]; exact (unhide H1).isOn
          have ST1 : Hid (Calls Try.prog 20 #[.pointer (some ⟨p, 0, none⟩)] w9 fun e w' => e = .returned (.int .i64 ((min (i + 1) k : Nat) : Int)) ∧ w' = w9) := by rw [← inv1.steps]; exact (unhide H1).steps
          rw [hon1, hst1] at *
          go_wp2_with (first | (go_at_call 19; refine (unhide ON1).mono ?_; rintro e w9 ⟨rfl, rfl⟩) | (go_at_call 20; refine (unhide ST1).mono ?_; rintro e w9 ⟨rfl, rfl⟩))
          go_roundw
          case rel => exact ⟨i + 1, by omega, by omega, by go_num, by first | go_num | (congr 1; omega), A1, unhide H1, inv1⟩
          case measure => simp [intOf]; omega
        · go_wp2_with fail
          refine (unhide CK).mono ?_
          rintro e wr ⟨rfl, rfl⟩
          clear g0
          have g1 := (unhide HA).keeps.cellOf (unhide X1) id
          go_wp2_with fail
          refine (kind_any q.core (unhide QOK).2.1 8 (by decide) (by decide) _).mono ?_
          rintro e wr ⟨rfl, rfl⟩
          go_wp2_with fail
          refine ((unhide HA).fence (ok_mono inv.ok (by omega)) _ (kindN q.core 8) rfl (kindN_lt _ _ (by decide))).mono ?_
          rintro e w9 ⟨rfl, h1, -⟩
          have H1 := hide h1
          clear h1 g1
          rw [her]
          have inv1 := inv.step _ (ok_fence inv.ok (kindN q.core 8))
          obtain ⟨A1, hA1⟩ : ∃ A1, A1 = A.fence (kindN q.core 8) := ⟨_, rfl⟩
          rw [show A.step _ = A1 from hA1.symm] at inv1
          rw [← hA1] at H1
          clear hA1 HA CK her inv
          have ON1 : Hid (Calls Try.prog 19 #[.pointer (some ⟨p, 0, none⟩)] w9 fun e w' => e = .returned (.bool (decide (i + 1 ≤ k))) ∧ w' = w9) := by rw [← inv1.on]; exact (unhide H1).isOn
          have ST1 : Hid (Calls Try.prog 20 #[.pointer (some ⟨p, 0, none⟩)] w9 fun e w' => e = .returned (.int .i64 ((min (i + 1) k : Nat) : Int)) ∧ w' = w9) := by rw [← inv1.steps]; exact (unhide H1).steps
          rw [hon1, hst1] at *
          go_wp2_with (first | (go_at_call 19; refine (unhide ON1).mono ?_; rintro e w9 ⟨rfl, rfl⟩) | (go_at_call 20; refine (unhide ST1).mono ?_; rintro e w9 ⟨rfl, rfl⟩))
          go_roundw
          case rel => exact ⟨i + 1, by omega, by omega, by go_num, by first | go_num | (congr 1; omega), A1, unhide H1, inv1⟩
          case measure => simp [intOf]; omega
    · by_cases h1 : (i : Int) < (n : Int)
      · have h2 : ¬ ((i : Int) < 60) := by omega
        go_wp2_with fail
        refine ((unhide HA).crash_nil (ok_mono inv.ok (by omega))).mono ?_
        rintro e w3 ⟨rfl, h3, -⟩
        have H3 := hide h3
        have OK3 : Hid ((A.crash []).ok 1000) := ok_crash (ok_mono inv.ok (by omega)) _
        have N3 : Hid ((A.crash []).n = 64) := inv.n
        clear h3 HA
        have ON3 : Hid (Calls Try.prog 19 #[.pointer (some ⟨p, 0, none⟩)] w3 fun e w' => e = .returned (.bool true) ∧ w' = w3) := (unhide H3).isOn
        have er3 : (A.crash []).err = 0 := rfl
        go_wp2_with (first | (go_at_call 19; refine (unhide ON3).mono ?_; rintro e w3 ⟨rfl, rfl⟩) | (go_at_call 14; refine ((unhide H3).store (unhide OK3) 0 0 0 0 rfl rfl (by rw [unhide N3]; decide) (by decide) 1).mono ?_; rintro e w4 ⟨rfl, h4, -⟩; rw [er3]; have H4 := hide h4; clear h4))
        go_ret
        exact ⟨rfl, (unhide H4).keeps.below (Nat.le_refl _) (fun _ h => h.elim)⟩
      · skip
        go_wp2_with fail
        refine ((unhide HA).crash_nil (ok_mono inv.ok (by omega))).mono ?_
        rintro e w3 ⟨rfl, h3, -⟩
        have H3 := hide h3
        have OK3 : Hid ((A.crash []).ok 1000) := ok_crash (ok_mono inv.ok (by omega)) _
        have N3 : Hid ((A.crash []).n = 64) := inv.n
        clear h3 HA
        have ON3 : Hid (Calls Try.prog 19 #[.pointer (some ⟨p, 0, none⟩)] w3 fun e w' => e = .returned (.bool true) ∧ w' = w3) := (unhide H3).isOn
        have er3 : (A.crash []).err = 0 := rfl
        go_wp2_with (first | (go_at_call 19; refine (unhide ON3).mono ?_; rintro e w3 ⟨rfl, rfl⟩) | (go_at_call 14; refine ((unhide H3).store (unhide OK3) 0 0 0 0 rfl rfl (by rw [unhide N3]; decide) (by decide) 1).mono ?_; rintro e w4 ⟨rfl, h4, -⟩; rw [er3]; have H4 := hide h4; clear h4))
        go_ret
        exact ⟨rfl, (unhide H4).keeps.below (Nat.le_refl _) (fun _ h => h.elim)⟩

set_option maxRecDepth 100000 in
theorem lifted (os : Os) (started : os.Started) (H : Type) (enc : TypeId × Value → H) :
    ReturnsInHanded {} Try.checked os 8 .any (Rows.nvmFusesSpec.pre6 enc Try.prog Try.f8 Rows.nvmFusesRow.domain false) (Rows.nvmFusesSpec.post enc Try.prog Try.f8 false true false false) := by
  refine law_frame (C := Try.checked) (ts := [3, 22]) (tb := 4) (by kernel_rfl) started (by kernel_rfl) Try.func8 Try.params8 (by kernel_rfl) Try.underlying4 (by kernel_rfl) (by kernel_rfl) rfl ?_
    (ChangeSpec.witness6 (enc := enc) (C := Try.checked) false ⟨#[], #[.int .i64 0, .slice none 0 0], []⟩ 8 (by kernel_rfl) (by kernel_rfl) (by kernel_rfl) (by kernel_rfl)) ?_
  · intro ds hd
    match ds, hd with
    | [d0, d1], _ => rfl
  · intro W base args ds p hval hA
    obtain ⟨v0, vs0, d0, ds0, p0, q0, hargs, rfl, rfl, h0, r0⟩ := trodAll_cons hA
    obtain ⟨v1, vs1, d1, ds1, p1, q1, rfl, rfl, rfl, h1, r1⟩ := trodAll_cons r0
    obtain ⟨rfl, rfl, rfl⟩ := trodAll_nil r1
    obtain rfl : args = #[v0, v1] := by cases args; simp_all
    obtain ⟨z, rfl, rfl, rfl, wz⟩ := open_int Try.underlying3 (hval 0 3 v0 rfl rfl) h0
    obtain ⟨a, n, cap, o, rfl, hO⟩ := open_ops (hval 1 22 v1 rfl rfl) h1
    exact walk W z a n cap o wz hO

theorem over : Rows.nvmFusesRow.holds Try.pinned (OpenSpec.ofChange Rows.nvmFusesSpec) :=
  OpenClaim.holds_of_wide 8 Try.f8 rfl rfl rfl rfl rfl rfl rfl ⟨rfl, rfl, rfl, rfl, rfl⟩ rfl rfl rfl rfl rfl (by kernel_rfl) Try.func8 (by kernel_rfl)
    (of_decide_eq_true (by kernel_rfl)) (by unfold Func.isWrapper; first | (rw [if_pos (by decide +kernel)]; kernel_rfl) | (rw [if_neg (by decide +kernel)]; exact ⟨rfl, rfl⟩))
    (fun os started H enc _ => lifted os started H enc)

end Go.Proofs.Ytkbafneoffcecaa.nvmFuses
namespace Go.Proofs.Ytkbafneoffcecaa
theorem nvmFuses_holds : Rows.NvmFusesSaid := nvmFuses.over
end Go.Proofs.Ytkbafneoffcecaa
