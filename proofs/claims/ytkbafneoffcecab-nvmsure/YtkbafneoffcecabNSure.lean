/-
  For every row of calls, and whatever is kept, NvmSure returns true and leaves its arguments as they were: behind a Crash each line has just what is sure, and a second one changes nothing. No condition.
-/
import Derived.Test.YtkbafneoffcecabNSame
import Derived.Test.YtkbafneoffcecabLaw
import Derived.Test.YtkbafneoffcecabRows
namespace Go.Proofs.Ytkbafneoffcecab.nvmSure
open Go.ChangeShapes Go.WideShapes Go.ChangeAt Go.RowKit Go.Joins
set_option linter.unusedVariables false
set_option linter.unusedSimpArgs false

def a0 : Mm := Mm.new 64 fun _ _ => 0
theorem k0 : a0.ok 0 := ok_new (by decide) (by decide) (fun _ _ => ⟨by decide, by decide⟩)
theorem crash_t (A : Mm) (keep : List Int) (i : Nat) : ((A.crash keep).l i).t = [] := rfl
theorem crash_has (A : Mm) (keep : List Int) (i : Nat) : ((A.crash keep).l i).has = ((A.crash keep).l i).s := rfl
theorem crash_again (A : Mm) (k1 k2 : List Int) (i : Nat) : (((A.crash k1).crash k2).l i).s = ((A.crash k1).l i).s := by
  show runS (((A.crash k1).l i).t.take _) _ = _
  rw [crash_t]; simp [runS]

set_option maxRecDepth 100000 in
set_option maxHeartbeats 4000000 in
theorem walk (W : World) (a : Option Addr) (n cap : Nat) (o : Nat → OpV) (a' : Option Addr) (keep : List Int) (n' cap' : Nat) (hO : OpsAt W a n cap o) (hK : IsRow W .i64 a' keep n' cap') :
    Calls Try.prog 5 #[.slice a n cap, .slice a' n' cap'] W fun e W' => e = .returned (.bool true) ∧ Below W.heap.size W W' := by
  obtain ⟨hn, hops⟩ := hO
  have HO := hide hops
  obtain ⟨q1, q2, q3⟩ := hK.keep
  have HKP := hide q1
  have HKR := hide q2
  obtain rfl : n' = keep.length := hK.1.symm
  clear hops hK q1 q2
  go_enter Try.func5, Try.ntmps5
  go_wp2_with fail
  refine (shown_any W).mono ?_
  rintro e w0 ⟨rfl, hk0⟩
  go_wp2_with fail
  refine (new_any w0 64 (by decide) (by decide)).mono ?_
  intro e w1 hm
  obtain ⟨p, rfl, h0, -⟩ := made_has W hk0 hm (fun _ => False) (fun _ h => h.elim)
  have H0 : Hid (Has W w1 (fun _ => False) p a0) := h0
  clear hm h0 hk0
  go_wp2_with fail
  go_loopw [8] (fun i wr => ∃ k : Nat, k ≤ n ∧ k ≤ 80 ∧ i = .int .i64 k ∧ ∃ A, Has W wr (fun _ => False) p A ∧ A.ok k ∧ A.n = 64) (fun i _ => n - (intOf i).toNat)
  case atStart => exact ⟨0, by omega, by omega, rfl, a0, unhide H0, k0, rfl⟩
  case round =>
    clear H0
    obtain ⟨k, hk, hk80, rfl, A, hA, hok, hAn⟩ := hrel
    have HA := hide hA
    have OK := hide hok
    have HAN := hide hAn
    clear hA hok hAn
    by_cases hlt : k < n ∧ k < 80
    · obtain ⟨hlt, hl8⟩ := hlt
      obtain ⟨x, off, rfl, hx⟩ : ∃ b off, a = some ⟨b, off, none⟩ ∧ ∀ i, i < n → OpAt W b (off + i * 6) (o i) := by
        rcases unhide HO with h | h
        · omega
        · exact h
      obtain ⟨hq, hqok⟩ := hx k hlt
      obtain ⟨q, hqe⟩ : ∃ q, q = o k := ⟨_, rfl⟩
      rw [← hqe] at hq hqok
      have HQ : Hid (wr.rangeAt x (off + k * 6) (opV q).toList) := rangeAt_keeps hq (unhide HA).keeps id
      have QOK := hide hqok
      clear hx hqe hq hqok
      have s6 : (Try.prog.info? 41).map (·.size) = some (opV q).toList.length := by rw [Array.length_toList, opV_size]; exact osize
      have hst := store_op q
      have hsz := opV_size q
      have hlt' : (k : Int) < (n : Int) := by omega
      have hl8' : (k : Int) < 80 := by omega
      go_upto_region 9 with (refine wpList_load_mid rfl 41 _ rfl x (off + k * 6) rfl _ _ (unhide HQ) Try.underlying41 rfl s6 ?_)
      clear hst hsz
      have OI := hide (opIn_new wr q 41)
      have HV0 := hide ((unhide HA).alloc (.cells (opV q) 41))
      obtain ⟨L, hL⟩ : ∃ L, L = wr.heap.size := ⟨_, rfl⟩
      rw [← hL] at OI HV0 ⊢
      have HV : Hid (Has W (wr.alloc (.cells (opV q) 41)) (fun k => k = L) p A) := (unhide HV0).less (fun _ h => Or.inr h)
      clear hL HA HV0 HQ
      generalize wr.alloc (.cells (opV q) 41) = V at *
      have g0 := (unhide OI).f0
      have hok1 : A.ok 1000 := ok_mono (unhide OK) (by omega)
      have HOK := hide hok1
      clear hok1
      obtain ⟨kd, hkd⟩ : ∃ kd, kd = kindN q.kind 5 := ⟨_, rfl⟩
      have hkd5 : kd < 5 := by rw [hkd]; exact kindN_lt _ _ (by decide)
      have CK : Hid (Calls Try.prog 8 #[.int .i64 q.kind, .int .i64 5] V fun e w' => e = .returned (.int .i64 (kd : Int)) ∧ w' = V) := by
        rw [hkd]; exact kind_any q.kind (unhide QOK).1 5 (by decide) (by decide) _
      clear hkd
      rcases (show kd = 0 ∨ kd = 1 ∨ kd = 2 ∨ kd = 3 ∨ kd = 4 by omega) with rfl | rfl | rfl | rfl | rfl
      all_goals
        go_wp2_with fail
        refine (unhide CK).mono ?_
        rintro e V ⟨rfl, rfl⟩
        clear g0
      · have g2 := (unhide OI).f2
        have g3 := (unhide OI).f3
        have g4 := (unhide OI).f4
        go_wp2_with fail
        refine ((unhide HV).storeZ (unhide HOK) q.line q.word q.v).mono ?_
        rintro e w' ⟨rfl, h1, -⟩
        have H1 := hide h1
        have O1 := hide (ok_storeZ (unhide OK) q.line q.word q.v (unhide QOK).2.2.2.2.1)
        have N1 : Hid ((A.storeZ q.line q.word q.v).n = 64) := (storeZ_n _ _ _ _).trans (unhide HAN)
        clear h1 g2 g3 g4 HV OI CK
        go_wp2_with fail
        go_roundw
        case rel => exact ⟨k + 1, by omega, by omega, by go_num, _, (unhide H1).less (fun _ h => h.elim), unhide O1, unhide N1⟩
        case measure => simp [intOf]; omega
      · have g2 := (unhide OI).f2
        have g3 := (unhide OI).f3
        have g4 := (unhide OI).f4
        go_wp2_with fail
        refine ((unhide HV).storeZ (unhide HOK) q.line q.word q.v).mono ?_
        rintro e w' ⟨rfl, h1, -⟩
        have H1 := hide h1
        have O1 := hide (ok_storeZ (unhide OK) q.line q.word q.v (unhide QOK).2.2.2.2.1)
        have N1 : Hid ((A.storeZ q.line q.word q.v).n = 64) := (storeZ_n _ _ _ _).trans (unhide HAN)
        clear h1 g2 g3 g4 HV OI CK
        go_wp2_with fail
        go_roundw
        case rel => exact ⟨k + 1, by omega, by omega, by go_num, _, (unhide H1).less (fun _ h => h.elim), unhide O1, unhide N1⟩
        case measure => simp [intOf]; omega
      · have g1 := (unhide OI).f1
        have g2 := (unhide OI).f2
        go_wp2_with fail
        refine ((unhide HV).flushZ (unhide HOK) q.core q.line).mono ?_
        rintro e w' ⟨rfl, h1, -⟩
        have H1 := hide h1
        have O1 := hide (ok_flushZ (unhide OK) q.core q.line)
        have N1 : Hid ((A.flushZ q.core q.line).n = 64) := (flushZ_n _ _ _).trans (unhide HAN)
        clear h1 g1 g2 HV OI CK
        go_wp2_with fail
        go_roundw
        case rel => exact ⟨k + 1, by omega, by omega, by go_num, _, (unhide H1).less (fun _ h => h.elim), unhide O1, unhide N1⟩
        case measure => simp [intOf]; omega
      · have g1 := (unhide OI).f1
        go_wp2_with fail
        refine ((unhide HV).fenceZ (unhide HOK) q.core).mono ?_
        rintro e w' ⟨rfl, h1, -⟩
        have H1 := hide h1
        have O1 := hide (ok_fenceZ (unhide OK) q.core)
        have N1 : Hid ((A.fenceZ q.core).n = 64) := (fenceZ_n _ _).trans (unhide HAN)
        clear h1 g1 HV OI CK
        go_wp2_with fail
        go_roundw
        case rel => exact ⟨k + 1, by omega, by omega, by go_num, _, (unhide H1).less (fun _ h => h.elim), unhide O1, unhide N1⟩
        case measure => simp [intOf]; omega
      · have g5 := (unhide OI).f5
        go_wp2_with fail
        refine ((unhide HV).crash_arg (unhide HOK) q.ka q.keep q.kcap (unhide QOK).2.2.2.2.2.2.1 (unhide QOK).2.2.2.2.2.2.2 (unhide QOK).2.2.2.2.2.1).mono ?_
        rintro e w' ⟨rfl, h1, -⟩
        have H1 := hide h1
        have O1 := hide (ok_mono (ok_crash (unhide OK) q.keep) (show k ≤ k + 1 by omega))
        have N1 : Hid ((A.crash q.keep).n = 64) := unhide HAN
        clear h1 g5 HV OI CK
        go_wp2_with fail
        go_roundw
        case rel => exact ⟨k + 1, by omega, by omega, by go_num, _, (unhide H1).less (fun _ h => h.elim), unhide O1, unhide N1⟩
        case measure => simp [intOf]; omega
    · by_cases h1 : (k : Int) < (n : Int)
      · have h2 : ¬ ((k : Int) < 80) := by omega
        have OKA : Hid (A.ok 1000) := ok_mono (unhide OK) (by omega)
        go_wp2_with fail
        refine ((unhide HA).crash_nil (unhide OKA)).mono ?_
        rintro e w2 ⟨rfl, h1', -⟩
        obtain ⟨C, hC⟩ : ∃ C, C = A.crash [] := ⟨_, rfl⟩
        have OKC : Hid (C.ok 1000) := by rw [hC]; exact ok_crash (unhide OKA) _
        have HCN : Hid (C.n = 64) := by rw [hC]; exact unhide HAN
        have HCH : Hid (∀ i, (C.l i).has = (C.l i).s) := fun i => by rw [hC]; exact crash_has _ _ _
        have HCT : Hid (∀ i, ((C.crash keep).l i).s = (C.l i).s) := fun i => by rw [hC]; exact crash_again _ _ _ _
        rw [← hC] at h1'
        have H2 := hide h1'
        clear h1' hC HA OK HAN OKA
        clear A
        go_wp2_with fail
        refine ((unhide H2).sure (by rw [unhide HCN]; decide)).mono ?_
        rintro e w3 ⟨ga, rfl, hra, h3, -, hga⟩
        rw [unhide HCN] at hra ⊢
        have RA := hide hra
        have H3 : Hid (Has W w3 (fun k => k = ga) p C) := h3.less (fun _ h => Or.inr h)
        clear hra h3 H2
        go_wp2_with fail
        refine ((unhide H3).crash_arg (unhide OKC) a' keep cap' (unhide HKR) q3 (unhide HKP)).mono ?_
        rintro e w4 ⟨rfl, h4, hs4⟩
        have RA4 : Hid (RowL w4 ga 64 fun i => (C.l i).s) := (unhide RA).same (hs4 ga rfl)
        have H4 := hide h4
        have HDN : Hid ((C.crash keep).n = 64) := unhide HCN
        clear h4 hs4 H3 RA
        go_wp2_with fail
        refine ((unhide H4).sure (by rw [unhide HDN]; decide)).mono ?_
        rintro e w5 ⟨gb, rfl, hrb, h5, hs5, hgb⟩
        rw [unhide HDN] at hrb ⊢
        have RA5 : Hid (RowL w5 ga 64 fun i => (C.l i).s) := (unhide RA4).same (hs5 ga rfl)
        have RB5 := hide hrb
        have H5 : Hid (Has W w5 (fun k => k = ga) p (C.crash keep)) := h5.less (fun _ h => Or.inl h)
        clear hrb h5 hs5 H4 RA4
        go_wp2_with fail
        refine (same_true w5 _ _ 64 _ _ _ _ (by decide) (unhide RA5).lines (unhide RB5).lines (fun i _ => by rw [unhide HCT i]; exact eqL_refl _)).mono ?_
        rintro e w6 ⟨rfl, hk6⟩
        have H6 : Hid (Has W w6 (fun k => k = ga) p (C.crash keep)) := by
          obtain ⟨F, c, cs, r1, r2, r3, r4⟩ := unhide H5
          exact ⟨F, c, cs, r1.keeps hk6 (fun _ _ => id), r2.trans' hk6, r3, fun k hk => ⟨(r4 k hk).1, Nat.lt_of_lt_of_le (r4 k hk).2 hk6.size⟩⟩
        have RA6 : Hid (RowL w6 ga 64 fun i => (C.l i).s) := (unhide RA5).same (hk6.block ga (unhide RA5).lt id)
        clear hk6 H5 RA5 RB5
        obtain ⟨D, hD⟩ : ∃ D, D = C.crash keep := ⟨_, rfl⟩
        have HDH : Hid (∀ i, (D.l i).has = (C.l i).s) := fun i => by rw [hD, crash_has]; exact unhide HCT i
        have HDO : Hid (D.on = true) := by rw [hD]; rfl
        rw [← hD] at H6 HDN
        clear hD
        go_wp2_with fail
        go_loopw [12] (fun i wz => ∃ m : Nat, m ≤ 64 ∧ i = .int .i64 m ∧ Has W wz (fun k => k = ga) p D ∧ RowL wz ga 64 fun i => (C.l i).s) (fun i _ => 64 - (intOf i).toNat)
        case atStart => exact ⟨0, by omega, rfl, unhide H6, unhide RA6⟩
        case round =>
          clear H6 RA6
          obtain ⟨m, hm, rfl, hz, hrz⟩ := hrel
          rename_i wz
          have HZ := hide hz
          have RZ := hide hrz
          clear hz hrz
          by_cases hlm : m < 64
          · have hlm' : (m : Int) < 64 := by omega
            go_wp2_with fail
            refine ((unhide HZ).load m m rfl (by rw [unhide HDN]; exact hlm) (unhide HDO) (by rw [unhide HDN]; decide)).mono ?_
            rintro e w8 ⟨rfl, h8, hs8⟩
            have H8 := hide h8
            have R8 : Hid (RowL w8 ga 64 fun i => (C.l i).s) := (unhide RZ).same (hs8 ga rfl)
            clear h8 hs8 HZ RZ
            rw [unhide HDH m]
            obtain ⟨f, hf⟩ : ∃ f, f = (C.l m).s := ⟨_, rfl⟩
            have RM : Hid (w8.rangeAt ga (m * 8) (lnV f).toList) := by rw [hf]; exact (unhide R8).at m hlm
            rw [← hf]
            clear hf
            have hst := store_line f
            have hsz := lnV_size f
            go_upto_region 29 with fail
            clear hst hsz
            have HL := hide (heap_new w8 (.cells (lnV f) 34))
            have H9 := hide ((unhide H8).alloc (.cells (lnV f) 34))
            have R9 : Hid (RowL (w8.alloc (.cells (lnV f) 34)) ga 64 fun i => (C.l i).s) := (unhide R8).alloc _
            have RM9 : Hid ((w8.alloc (.cells (lnV f) 34)).rangeAt ga (m * 8) (lnV f).toList) := World.rangeAt_alloc (unhide RM) _
            obtain ⟨M, hM⟩ : ∃ M, M = w8.heap.size := ⟨_, rfl⟩
            rw [← hM] at HL ⊢
            have H10 : Hid (Has W (w8.alloc (.cells (lnV f) 34)) (fun k => k = ga) p D) := (unhide H9).less (fun _ h => Or.inl h)
            clear hM H8 H9 R8 RM
            generalize w8.alloc (.cells (lnV f) 34) = Y at *
            have RL : Hid (Y.rangeAt M 0 (lnV f).toList) := Blk.range (N := 8) (T := 34) (f := fun j => .int .u64 (f j)) (unhide HL) 0 8 (by omega) (fun j => .int .u64 (f j)) (fun j hj => by rw [Nat.zero_add])
            have s8 : (Try.prog.info? 34).map (·.size) = some (lnV f).toList.length := by rw [Array.length_toList, lnV_size]; exact lsize
            refine wp_region_noPanic ?_
            refine wp_region_held_drew (S := fun w' => w'.rangeAt ga (m * 8) (lnV f).toList ∧ w'.rangeAt M 0 (lnV f).toList) (by kernel_rfl) ⟨unhide RM9, unhide RL⟩ (fun hHeld => ?_)
            refine take_at 0 102 (v := ?_) rfl rfl (by kernel_rfl) (by kernel_rfl) (by kernel_rfl) (Or.inl ⟨by rfl, ?_⟩) hHeld ?_
            rotate_left
            · intro w hSw; go_simp; with_reducible rfl
            simp only [Act.put, List.setIfInBounds_toArray, List.set_cons_zero, List.set_cons_succ]
            refine take_at 1 103 (v := ?_) rfl rfl (by kernel_rfl) (by kernel_rfl) (by kernel_rfl) (Or.inl ⟨by rfl, ?_⟩) hHeld ?_
            rotate_left
            · intro w hSw; go_simp; with_reducible rfl
            simp only [Act.put, List.setIfInBounds_toArray, List.set_cons_zero, List.set_cons_succ]
            refine take_at 2 104 (v := ?_) rfl rfl (by kernel_rfl) (by kernel_rfl) (by kernel_rfl) (Or.inl ⟨by rfl, ?_⟩) hHeld ?_
            rotate_left
            · intro w hSw; go_simp; with_reducible rfl
            simp only [Act.put, List.setIfInBounds_toArray, List.set_cons_zero, List.set_cons_succ]
            refine take_at 3 105 rfl rfl (by kernel_rfl) (by kernel_rfl) (by kernel_rfl) (yieldsIf_load_mid (by rfl) _ _ rfl M 0 rfl _ _ (fun w h => h.2) Try.underlying34 rfl s8) hHeld ?_
            simp only [Act.put, List.setIfInBounds_toArray, List.set_cons_zero, List.set_cons_succ]
            refine take_at 4 106 (v := ?_) rfl rfl (by kernel_rfl) (by kernel_rfl) (by kernel_rfl) (Or.inl ⟨by rfl, ?_⟩) hHeld ?_
            rotate_left
            · intro w hSw; go_simp; with_reducible rfl
            simp only [Act.put, List.setIfInBounds_toArray, List.set_cons_zero, List.set_cons_succ]
            refine take_at 5 107 (v := ?_) rfl rfl (by kernel_rfl) (by kernel_rfl) (by kernel_rfl) (Or.inl ⟨by rfl, ?_⟩) hHeld ?_
            rotate_left
            · intro w hSw; go_simp; with_reducible rfl
            simp only [Act.put, List.setIfInBounds_toArray, List.set_cons_zero, List.set_cons_succ]
            refine take_at 6 108 (v := ?_) rfl rfl (by kernel_rfl) (by kernel_rfl) (by kernel_rfl) (Or.inl ⟨by rfl, ?_⟩) hHeld ?_
            rotate_left
            · intro w hSw; go_simp; with_reducible rfl
            simp only [Act.put, List.setIfInBounds_toArray, List.set_cons_zero, List.set_cons_succ]
            refine take_at 7 109 rfl rfl (by kernel_rfl) (by kernel_rfl) (by kernel_rfl) (yieldsIf_load_mid (by rfl) _ _ rfl ga (m * 8) rfl _ _ (fun w h => h.1) Try.underlying34 rfl s8) hHeld ?_
            simp only [Act.put, List.setIfInBounds_toArray, List.set_cons_zero, List.set_cons_succ]
            refine take_at 8 110 rfl rfl (by kernel_rfl) (by kernel_rfl) (by kernel_rfl) (yieldsIf_neqL (by rfl) (.tmp 105) (.tmp 109) rfl f f rfl rfl) hHeld ?_
            simp only [Act.put, List.setIfInBounds_toArray, List.set_cons_zero, List.set_cons_succ]
            rw [eqL_refl]
            refine take_at 9 111 (v := ?_) rfl rfl (by kernel_rfl) (by kernel_rfl) (by kernel_rfl) (Or.inl ⟨by rfl, ?_⟩) hHeld ?_
            rotate_left
            · intro w hSw; go_simp; with_reducible rfl
            simp only [Act.put, List.setIfInBounds_toArray, List.set_cons_zero, List.set_cons_succ]
            refine wpAnyH_done (by kernel_rfl) ?_ _
            refine NoPanic.normal ?_
            clear hHeld RL RM9 HL
            go_wp2_with fail
            go_roundw
            case rel => exact ⟨m + 1, by omega, by go_num, (unhide H10).drew, (unhide R9).drew⟩
            case measure => simp [intOf]; omega
          · have hlm' : ¬ ((m : Int) < 64) := by omega
            go_wp2_with fail
            go_ret
            exact ⟨rfl, (unhide HZ).keeps.below (Nat.le_refl _) (fun _ h => h.elim)⟩
      · skip
        have OKA : Hid (A.ok 1000) := ok_mono (unhide OK) (by omega)
        go_wp2_with fail
        refine ((unhide HA).crash_nil (unhide OKA)).mono ?_
        rintro e w2 ⟨rfl, h1', -⟩
        obtain ⟨C, hC⟩ : ∃ C, C = A.crash [] := ⟨_, rfl⟩
        have OKC : Hid (C.ok 1000) := by rw [hC]; exact ok_crash (unhide OKA) _
        have HCN : Hid (C.n = 64) := by rw [hC]; exact unhide HAN
        have HCH : Hid (∀ i, (C.l i).has = (C.l i).s) := fun i => by rw [hC]; exact crash_has _ _ _
        have HCT : Hid (∀ i, ((C.crash keep).l i).s = (C.l i).s) := fun i => by rw [hC]; exact crash_again _ _ _ _
        rw [← hC] at h1'
        have H2 := hide h1'
        clear h1' hC HA OK HAN OKA
        clear A
        go_wp2_with fail
        refine ((unhide H2).sure (by rw [unhide HCN]; decide)).mono ?_
        rintro e w3 ⟨ga, rfl, hra, h3, -, hga⟩
        rw [unhide HCN] at hra ⊢
        have RA := hide hra
        have H3 : Hid (Has W w3 (fun k => k = ga) p C) := h3.less (fun _ h => Or.inr h)
        clear hra h3 H2
        go_wp2_with fail
        refine ((unhide H3).crash_arg (unhide OKC) a' keep cap' (unhide HKR) q3 (unhide HKP)).mono ?_
        rintro e w4 ⟨rfl, h4, hs4⟩
        have RA4 : Hid (RowL w4 ga 64 fun i => (C.l i).s) := (unhide RA).same (hs4 ga rfl)
        have H4 := hide h4
        have HDN : Hid ((C.crash keep).n = 64) := unhide HCN
        clear h4 hs4 H3 RA
        go_wp2_with fail
        refine ((unhide H4).sure (by rw [unhide HDN]; decide)).mono ?_
        rintro e w5 ⟨gb, rfl, hrb, h5, hs5, hgb⟩
        rw [unhide HDN] at hrb ⊢
        have RA5 : Hid (RowL w5 ga 64 fun i => (C.l i).s) := (unhide RA4).same (hs5 ga rfl)
        have RB5 := hide hrb
        have H5 : Hid (Has W w5 (fun k => k = ga) p (C.crash keep)) := h5.less (fun _ h => Or.inl h)
        clear hrb h5 hs5 H4 RA4
        go_wp2_with fail
        refine (same_true w5 _ _ 64 _ _ _ _ (by decide) (unhide RA5).lines (unhide RB5).lines (fun i _ => by rw [unhide HCT i]; exact eqL_refl _)).mono ?_
        rintro e w6 ⟨rfl, hk6⟩
        have H6 : Hid (Has W w6 (fun k => k = ga) p (C.crash keep)) := by
          obtain ⟨F, c, cs, r1, r2, r3, r4⟩ := unhide H5
          exact ⟨F, c, cs, r1.keeps hk6 (fun _ _ => id), r2.trans' hk6, r3, fun k hk => ⟨(r4 k hk).1, Nat.lt_of_lt_of_le (r4 k hk).2 hk6.size⟩⟩
        have RA6 : Hid (RowL w6 ga 64 fun i => (C.l i).s) := (unhide RA5).same (hk6.block ga (unhide RA5).lt id)
        clear hk6 H5 RA5 RB5
        obtain ⟨D, hD⟩ : ∃ D, D = C.crash keep := ⟨_, rfl⟩
        have HDH : Hid (∀ i, (D.l i).has = (C.l i).s) := fun i => by rw [hD, crash_has]; exact unhide HCT i
        have HDO : Hid (D.on = true) := by rw [hD]; rfl
        rw [← hD] at H6 HDN
        clear hD
        go_wp2_with fail
        go_loopw [12] (fun i wz => ∃ m : Nat, m ≤ 64 ∧ i = .int .i64 m ∧ Has W wz (fun k => k = ga) p D ∧ RowL wz ga 64 fun i => (C.l i).s) (fun i _ => 64 - (intOf i).toNat)
        case atStart => exact ⟨0, by omega, rfl, unhide H6, unhide RA6⟩
        case round =>
          clear H6 RA6
          obtain ⟨m, hm, rfl, hz, hrz⟩ := hrel
          rename_i wz
          have HZ := hide hz
          have RZ := hide hrz
          clear hz hrz
          by_cases hlm : m < 64
          · have hlm' : (m : Int) < 64 := by omega
            go_wp2_with fail
            refine ((unhide HZ).load m m rfl (by rw [unhide HDN]; exact hlm) (unhide HDO) (by rw [unhide HDN]; decide)).mono ?_
            rintro e w8 ⟨rfl, h8, hs8⟩
            have H8 := hide h8
            have R8 : Hid (RowL w8 ga 64 fun i => (C.l i).s) := (unhide RZ).same (hs8 ga rfl)
            clear h8 hs8 HZ RZ
            rw [unhide HDH m]
            obtain ⟨f, hf⟩ : ∃ f, f = (C.l m).s := ⟨_, rfl⟩
            have RM : Hid (w8.rangeAt ga (m * 8) (lnV f).toList) := by rw [hf]; exact (unhide R8).at m hlm
            rw [← hf]
            clear hf
            have hst := store_line f
            have hsz := lnV_size f
            go_upto_region 29 with fail
            clear hst hsz
            have HL := hide (heap_new w8 (.cells (lnV f) 34))
            have H9 := hide ((unhide H8).alloc (.cells (lnV f) 34))
            have R9 : Hid (RowL (w8.alloc (.cells (lnV f) 34)) ga 64 fun i => (C.l i).s) := (unhide R8).alloc _
            have RM9 : Hid ((w8.alloc (.cells (lnV f) 34)).rangeAt ga (m * 8) (lnV f).toList) := World.rangeAt_alloc (unhide RM) _
            obtain ⟨M, hM⟩ : ∃ M, M = w8.heap.size := ⟨_, rfl⟩
            rw [← hM] at HL ⊢
            have H10 : Hid (Has W (w8.alloc (.cells (lnV f) 34)) (fun k => k = ga) p D) := (unhide H9).less (fun _ h => Or.inl h)
            clear hM H8 H9 R8 RM
            generalize w8.alloc (.cells (lnV f) 34) = Y at *
            have RL : Hid (Y.rangeAt M 0 (lnV f).toList) := Blk.range (N := 8) (T := 34) (f := fun j => .int .u64 (f j)) (unhide HL) 0 8 (by omega) (fun j => .int .u64 (f j)) (fun j hj => by rw [Nat.zero_add])
            have s8 : (Try.prog.info? 34).map (·.size) = some (lnV f).toList.length := by rw [Array.length_toList, lnV_size]; exact lsize
            refine wp_region_noPanic ?_
            refine wp_region_held_drew (S := fun w' => w'.rangeAt ga (m * 8) (lnV f).toList ∧ w'.rangeAt M 0 (lnV f).toList) (by kernel_rfl) ⟨unhide RM9, unhide RL⟩ (fun hHeld => ?_)
            refine take_at 0 102 (v := ?_) rfl rfl (by kernel_rfl) (by kernel_rfl) (by kernel_rfl) (Or.inl ⟨by rfl, ?_⟩) hHeld ?_
            rotate_left
            · intro w hSw; go_simp; with_reducible rfl
            simp only [Act.put, List.setIfInBounds_toArray, List.set_cons_zero, List.set_cons_succ]
            refine take_at 1 103 (v := ?_) rfl rfl (by kernel_rfl) (by kernel_rfl) (by kernel_rfl) (Or.inl ⟨by rfl, ?_⟩) hHeld ?_
            rotate_left
            · intro w hSw; go_simp; with_reducible rfl
            simp only [Act.put, List.setIfInBounds_toArray, List.set_cons_zero, List.set_cons_succ]
            refine take_at 2 104 (v := ?_) rfl rfl (by kernel_rfl) (by kernel_rfl) (by kernel_rfl) (Or.inl ⟨by rfl, ?_⟩) hHeld ?_
            rotate_left
            · intro w hSw; go_simp; with_reducible rfl
            simp only [Act.put, List.setIfInBounds_toArray, List.set_cons_zero, List.set_cons_succ]
            refine take_at 3 105 rfl rfl (by kernel_rfl) (by kernel_rfl) (by kernel_rfl) (yieldsIf_load_mid (by rfl) _ _ rfl M 0 rfl _ _ (fun w h => h.2) Try.underlying34 rfl s8) hHeld ?_
            simp only [Act.put, List.setIfInBounds_toArray, List.set_cons_zero, List.set_cons_succ]
            refine take_at 4 106 (v := ?_) rfl rfl (by kernel_rfl) (by kernel_rfl) (by kernel_rfl) (Or.inl ⟨by rfl, ?_⟩) hHeld ?_
            rotate_left
            · intro w hSw; go_simp; with_reducible rfl
            simp only [Act.put, List.setIfInBounds_toArray, List.set_cons_zero, List.set_cons_succ]
            refine take_at 5 107 (v := ?_) rfl rfl (by kernel_rfl) (by kernel_rfl) (by kernel_rfl) (Or.inl ⟨by rfl, ?_⟩) hHeld ?_
            rotate_left
            · intro w hSw; go_simp; with_reducible rfl
            simp only [Act.put, List.setIfInBounds_toArray, List.set_cons_zero, List.set_cons_succ]
            refine take_at 6 108 (v := ?_) rfl rfl (by kernel_rfl) (by kernel_rfl) (by kernel_rfl) (Or.inl ⟨by rfl, ?_⟩) hHeld ?_
            rotate_left
            · intro w hSw; go_simp; with_reducible rfl
            simp only [Act.put, List.setIfInBounds_toArray, List.set_cons_zero, List.set_cons_succ]
            refine take_at 7 109 rfl rfl (by kernel_rfl) (by kernel_rfl) (by kernel_rfl) (yieldsIf_load_mid (by rfl) _ _ rfl ga (m * 8) rfl _ _ (fun w h => h.1) Try.underlying34 rfl s8) hHeld ?_
            simp only [Act.put, List.setIfInBounds_toArray, List.set_cons_zero, List.set_cons_succ]
            refine take_at 8 110 rfl rfl (by kernel_rfl) (by kernel_rfl) (by kernel_rfl) (yieldsIf_neqL (by rfl) (.tmp 105) (.tmp 109) rfl f f rfl rfl) hHeld ?_
            simp only [Act.put, List.setIfInBounds_toArray, List.set_cons_zero, List.set_cons_succ]
            rw [eqL_refl]
            refine take_at 9 111 (v := ?_) rfl rfl (by kernel_rfl) (by kernel_rfl) (by kernel_rfl) (Or.inl ⟨by rfl, ?_⟩) hHeld ?_
            rotate_left
            · intro w hSw; go_simp; with_reducible rfl
            simp only [Act.put, List.setIfInBounds_toArray, List.set_cons_zero, List.set_cons_succ]
            refine wpAnyH_done (by kernel_rfl) ?_ _
            refine NoPanic.normal ?_
            clear hHeld RL RM9 HL
            go_wp2_with fail
            go_roundw
            case rel => exact ⟨m + 1, by omega, by go_num, (unhide H10).drew, (unhide R9).drew⟩
            case measure => simp [intOf]; omega
          · have hlm' : ¬ ((m : Int) < 64) := by omega
            go_wp2_with fail
            go_ret
            exact ⟨rfl, (unhide HZ).keeps.below (Nat.le_refl _) (fun _ h => h.elim)⟩

set_option maxRecDepth 100000 in
theorem lifted (os : Os) (started : os.Started) (H : Type) (enc : TypeId × Value → H) :
    ReturnsInHanded {} Try.checked os 5 .any (Rows.nvmSureSpec.pre6 enc Try.prog Try.f5 Rows.nvmSureRow.domain false) (Rows.nvmSureSpec.post enc Try.prog Try.f5 false true false false) := by
  refine law_frame (C := Try.checked) (ts := [38, 39]) (tb := 4) (by kernel_rfl) started (by kernel_rfl) Try.func5 Try.params5 (by kernel_rfl) Try.underlying4 (by kernel_rfl) (by kernel_rfl) rfl ?_
    (ChangeSpec.witness6 (enc := enc) (C := Try.checked) false ⟨#[], #[.slice none 0 0, .slice none 0 0], []⟩ 8 (by kernel_rfl) (by kernel_rfl) (by kernel_rfl) (by kernel_rfl)) ?_
  · intro ds hd
    match ds, hd with
    | [d0, d1], _ => rfl
  · intro W base args ds p hval hA
    obtain ⟨v0, vs0, d0, ds0, p0, q0, hargs, rfl, rfl, h0, r0⟩ := trodAll_cons hA
    obtain ⟨v1, vs1, d1, ds1, p1, q1, rfl, rfl, rfl, h1, r1⟩ := trodAll_cons r0
    obtain ⟨rfl, rfl, rfl⟩ := trodAll_nil r1
    obtain rfl : args = #[v0, v1] := by cases args; simp_all
    obtain ⟨a, n, cap, o, rfl, hO⟩ := open_ops (hval 0 38 v0 rfl rfl) h0
    obtain ⟨b, keep, n1, cap1, rfl, hK⟩ := open_i64s (hval 1 39 v1 rfl rfl) h1
    exact walk W a n cap o b keep n1 cap1 hO hK

theorem over : Rows.nvmSureRow.holds Try.pinned (OpenSpec.ofChange Rows.nvmSureSpec) :=
  OpenClaim.holds_of_wide 5 Try.f5 rfl rfl rfl rfl rfl rfl rfl ⟨rfl, rfl, rfl, rfl, rfl⟩ rfl rfl rfl rfl rfl (by kernel_rfl) Try.func5 (by kernel_rfl)
    (of_decide_eq_true (by kernel_rfl)) (by unfold Func.isWrapper; first | (rw [if_pos (by decide +kernel)]; kernel_rfl) | (rw [if_neg (by decide +kernel)]; exact ⟨rfl, rfl⟩))
    (fun os started H enc _ => lifted os started H enc)

end Go.Proofs.Ytkbafneoffcecab.nvmSure
namespace Go.Proofs.Ytkbafneoffcecab
theorem nvmSure_holds : Rows.NvmSureSaid := nvmSure.over
end Go.Proofs.Ytkbafneoffcecab
