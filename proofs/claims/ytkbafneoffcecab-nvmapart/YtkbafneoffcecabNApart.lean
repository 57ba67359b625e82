/-
  For every row of calls and every value, NvmApart returns true and leaves its arguments as they were: what is done to a line is not seen in another one, whatever crashes. No condition.
-/
import Derived.Test.YtkbafneoffcecabNTotal
import Derived.Test.YtkbafneoffcecabLaw
import Derived.Test.YtkbafneoffcecabRows
namespace Go.Proofs.Ytkbafneoffcecab.nvmApart
open Go.ChangeShapes Go.WideShapes Go.ChangeAt Go.RowKit Go.Joins
set_option linter.unusedVariables false
set_option linter.unusedSimpArgs false

def at3 (v : Int) (j : Nat) : Int := if j = 3 then v else 0
theorem built_3 (v : Int) : Try.prog.built 34 [(3, .int .u64 v)] = some (lnV (at3 v)) := by kernel_rfl
/-- Line 7 is as it was made, all of it sure; no fuse burns. -/
structure Inv (v : Int) (B : Nat) (A : Mm) : Prop where
  ok : A.ok B
  n : A.n = 64
  on : A.on = true
  fuse : A.fuse = -1
  t : (A.l 7).t = []
  s : (A.l 7).s = at3 v
theorem Inv.may {v : Int} {B : Nat} {A : Mm} (h : Inv v B A) : A.may = true := by simp [Mm.may, h.on, h.fuse]
theorem Inv.has {v : Int} {B : Nat} {A : Mm} (h : Inv v B A) : (A.l 7).has = at3 v := by unfold Ln.has; rw [h.t, h.s]; rfl
theorem Inv.step {v : Int} {B : Nat} {A : Mm} (h : Inv v B A) (l : Nat → Ln) (hok : (A.step l).ok (B + 1)) (ht : (l 7).t = []) (hs : (l 7).s = at3 v) : Inv v (B + 1) (A.step l) := by
  have e : A.step l = A.stepped l := by unfold Mm.step; rw [h.may]; rfl
  rw [e] at hok ⊢
  exact ⟨hok, h.n, h.on, by simp [Mm.stepped, h.fuse], ht, hs⟩
theorem Inv.store {v : Int} {B : Nat} {A : Mm} (h : Inv v B A) (k q : Nat) (x : Int) (hk : k ≠ 7) (hq : q < 8) (hx : InU x) : Inv v (B + 1) (A.store k q x) :=
  h.step _ (ok_store h.ok k q x hq hx) (by rw [upd_other _ _ _ _ (Ne.symm hk)]; exact h.t) (by rw [upd_other _ _ _ _ (Ne.symm hk)]; exact h.s)
theorem Inv.flush {v : Int} {B : Nat} {A : Mm} (h : Inv v B A) (c k : Nat) (hk : k ≠ 7) : Inv v (B + 1) (A.flush c k) :=
  h.step _ (ok_flush h.ok c k) (by rw [upd_other _ _ _ _ (Ne.symm hk)]; exact h.t) (by rw [upd_other _ _ _ _ (Ne.symm hk)]; exact h.s)
theorem Inv.fence {v : Int} {B : Nat} {A : Mm} (h : Inv v B A) (c : Nat) : Inv v (B + 1) (A.fence c) :=
  h.step _ (ok_fence h.ok c) (by simp [Ln.settle, h.t]) (by simp [Ln.settle, h.t, h.s, runS])
theorem Inv.evict {v : Int} {B : Nat} {A : Mm} (h : Inv v B A) (k n : Nat) (hk : k ≠ 7) : Inv v (B + 1) (A.evict k n) :=
  ⟨ok_mono (ok_evict h.ok k n) (by omega), h.n, h.on, h.fuse, by show (upd A.l k _ 7).t = []; rw [upd_other _ _ _ _ (Ne.symm hk)]; exact h.t, by show (upd A.l k _ 7).s = _; rw [upd_other _ _ _ _ (Ne.symm hk)]; exact h.s⟩
theorem Inv.crash {v : Int} {B : Nat} {A : Mm} (h : Inv v B A) (keep : List Int) : Inv v (B + 1) (A.crash keep) :=
  ⟨ok_mono (ok_crash h.ok keep) (by omega), h.n, rfl, rfl, by simp [Mm.crash, crashL, Ln.lose], by simp [Mm.crash, crashL, Ln.lose, Ln.settle, h.t, h.s, runS]⟩

def a0 : Mm := Mm.new 64 fun _ _ => 0
def a1 (v : Int) : Mm := a0.store 7 3 v
def a2 (v : Int) : Mm := (a1 v).flush 0 7
def a3 (v : Int) : Mm := (a2 v).fence 0
theorem k0 : a0.ok 0 := ok_new (by decide) (by decide) (fun _ _ => ⟨by decide, by decide⟩)
theorem k1 (v : Int) (hv : InU v) : (a1 v).ok 1 := ok_store k0 _ _ _ (by decide) hv
theorem k2 (v : Int) (hv : InU v) : (a2 v).ok 2 := ok_flush (k1 v hv) _ _
theorem k3 (v : Int) (hv : InU v) : Inv v 3 (a3 v) := ⟨ok_fence (k2 v hv) _, rfl, rfl, rfl, rfl, by
  show runS _ _ = _
  rfl⟩


set_option maxRecDepth 100000 in
set_option maxHeartbeats 4000000 in
theorem walk (W : World) (a : Option Addr) (n cap : Nat) (o : Nat → OpV) (v : Int) (hO : OpsAt W a n cap o) (wv : (Lit.int .u64 v).wf = true) :
    Calls Try.prog 4 #[.slice a n cap, .int .u64 v] W fun e W' => e = .returned (.bool true) ∧ Below W.heap.size W W' := by
  have hv : InU v := inU_wf wv
  obtain ⟨hn, hops⟩ := hO
  have HO := hide hops
  clear hops wv
  go_enter Try.func4, Try.ntmps4
  go_wp2_with fail
  refine (shown_any W).mono ?_
  rintro e w0 ⟨rfl, hk0⟩
  go_wp2_with fail
  refine (new_any w0 64 (by decide) (by decide)).mono ?_
  intro e w1 hm
  obtain ⟨p, rfl, h0, -⟩ := made_has W hk0 hm (fun _ => False) (fun _ h => h.elim)
  have H0 : Hid (Has W w1 (fun _ => False) p a0) := h0
  clear hm h0 hk0
  go_wp2_with fail
  refine ((unhide H0).store (ok_mono k0 (by decide)) 7 3 7 3 rfl rfl (by decide) (by decide) v).mono ?_
  rintro e w2 ⟨rfl, h1, -⟩
  have H1 : Hid (Has W w2 (fun _ => False) p (a1 v)) := h1
  clear h1 H0
  go_wp2_with fail
  refine ((unhide H1).flush (ok_mono (k1 v hv) (by decide)) 0 7 0 7 rfl rfl (by decide) (show 7 < 64 by decide)).mono ?_
  rintro e w3 ⟨rfl, h1, -⟩
  have H2 : Hid (Has W w3 (fun _ => False) p (a2 v)) := h1
  clear h1 H1
  go_wp2_with fail
  refine ((unhide H2).fence (ok_mono (k2 v hv) (by decide)) 0 0 rfl (by decide)).mono ?_
  rintro e w4 ⟨rfl, h1, -⟩
  have H3 : Hid (Has W w4 (fun _ => False) p (a3 v)) := h1
  clear h1 H2
  go_wp2_with fail
  go_loopw [8] (fun i wr => ∃ k : Nat, k ≤ n ∧ k ≤ 80 ∧ i = .int .i64 k ∧ ∃ A, Has W wr (fun _ => False) p A ∧ Inv v (3 + k) A) (fun i _ => n - (intOf i).toNat)
  case atStart => exact ⟨0, by omega, by omega, rfl, a3 v, unhide H3, k3 v hv⟩
  case round =>
    clear H3
    obtain ⟨k, hk, hk80, rfl, A, hA, inv⟩ := hrel
    have HA := hide hA
    clear hA
    by_cases hlt : k < n ∧ k < 80
    · obtain ⟨hlt, hl8⟩ := hlt
      obtain ⟨x, off, rfl, hx⟩ : ∃ b off, a = some ⟨b, off, none⟩ ∧ ∀ i, i < n → OpAt W b (off + i * 6) (o i) := by
        rcases unhide HO with h | h
        · omega
        · exact h
      obtain ⟨hq, hqok⟩ := hx k hlt
      obtain ⟨q, hqe⟩ : ∃ q, q = o k := ⟨_, rfl⟩
      rw [← hqe] at hq hqok
      have HQ : Hid (wr.rangeAt x (off + k * 6) (opV q).toList) := rangeAt_keeps hq (unhide HA).keeps id
      have QOK := hide hqok
      clear hx hqe hq hqok
      have s6 : (Try.prog.info? 41).map (·.size) = some (opV q).toList.length := by rw [Array.length_toList, opV_size]; exact osize
      have hst := store_op q
      have hsz := opV_size q
      have hlt' : (k : Int) < (n : Int) := by omega
      have hl8' : (k : Int) < 80 := by omega
      go_upto_region 12 with (refine wpList_load_mid rfl 41 _ rfl x (off + k * 6) rfl _ _ (unhide HQ) Try.underlying41 rfl s6 ?_)
      clear hst hsz
      have OI := hide (opIn_new wr q 41)
      have HV0 := hide ((unhide HA).alloc (.cells (opV q) 41))
      obtain ⟨L, hL⟩ : ∃ L, L = wr.heap.size := ⟨_, rfl⟩
      rw [← hL] at OI HV0 ⊢
      have HV : Hid (Has W (wr.alloc (.cells (opV q) 41)) (fun k => k = L) p A) := (unhide HV0).less (fun _ h => Or.inr h)
      clear hL HA HV0 HQ
      generalize wr.alloc (.cells (opV q) 41) = V at *
      have g2 := (unhide OI).f2
      have g0 := (unhide OI).f0
      go_wp2_with fail
      refine (kind_any q.line (unhide QOK).2.2.1 64 (by decide) (by decide) _).mono ?_
      rintro e V ⟨rfl, rfl⟩
      have hl64 := kindN_lt q.line 64 (by decide)
      obtain ⟨kd, hkd⟩ : ∃ kd, kd = kindN q.kind 5 := ⟨_, rfl⟩
      have hkd5 : kd < 5 := by rw [hkd]; exact kindN_lt _ _ (by decide)
      have CK : Hid (Calls Try.prog 8 #[.int .i64 q.kind, .int .i64 5] V fun e w' => e = .returned (.int .i64 (kd : Int)) ∧ w' = V) := by
        rw [hkd]; exact kind_any q.kind (unhide QOK).1 5 (by decide) (by decide) _
      clear hkd
      by_cases h7 : kindN q.line 64 = 7
      · rw [h7]
        obtain ⟨ln, hln⟩ : ∃ ln, ln = 8 := ⟨_, rfl⟩
        have hln7 : ln ≠ 7 := by omega
        clear h7 hl64
        rcases (show kd = 0 ∨ kd = 1 ∨ kd = 2 ∨ kd = 3 ∨ kd = 4 by omega) with rfl | rfl | rfl | rfl | rfl
        · go_wp2_with fail
          refine (unhide CK).mono ?_
          rintro e V ⟨rfl, rfl⟩
          go_upto_region 17 with fail
          refine wp_region_noPanic ?_
          refine wp_region_held_drew (S := fun w' => w'.cell? ⟨L, 3, none⟩ = some (.int .i64 q.word) ∧ w'.cell? ⟨L, 4, none⟩ = some (.int .u64 q.v)) (by kernel_rfl) ⟨(unhide OI).f3, (unhide OI).f4⟩ (fun hHeld => ?_)
          refine take_at 0 55 (v := ?_) rfl rfl (by kernel_rfl) (by kernel_rfl) (by kernel_rfl) (Or.inl ⟨by rfl, ?_⟩) hHeld ?_
          rotate_left
          · intro w hSw; go_simp; with_reducible rfl
          simp only [Act.put, List.setIfInBounds_toArray, List.set_cons_zero, List.set_cons_succ]
          refine take_at 1 56 (v := ?_) rfl rfl (by kernel_rfl) (by kernel_rfl) (by kernel_rfl) (Or.inl ⟨by rfl, ?_⟩) hHeld ?_
          rotate_left
          · intro w hSw; go_simp; with_reducible rfl
          simp only [Act.put, List.setIfInBounds_toArray, List.set_cons_zero, List.set_cons_succ]
          refine take_at 2 57 (v := ?_) rfl rfl (by kernel_rfl) (by kernel_rfl) (by kernel_rfl) (Or.inl ⟨by rfl, ?_⟩) hHeld ?_
          rotate_left
          · intro w hSw; go_simp; with_reducible rfl
          simp only [Act.put, List.setIfInBounds_toArray, List.set_cons_zero, List.set_cons_succ]
          refine take_at 3 58 (v := ?_) rfl rfl (by kernel_rfl) (by kernel_rfl) (by kernel_rfl) (Or.inl ⟨by rfl, ?_⟩) hHeld ?_
          rotate_left
          · intro w hSw; obtain ⟨s1, s2⟩ := hSw; go_simp; with_reducible rfl
          simp only [Act.put, List.setIfInBounds_toArray, List.set_cons_zero, List.set_cons_succ]
          refine take_at 5 60 (v := ?_) rfl rfl (by kernel_rfl) (by kernel_rfl) (by kernel_rfl) (Or.inl ⟨by rfl, ?_⟩) hHeld ?_
          rotate_left
          · intro w hSw; go_simp; with_reducible rfl
          simp only [Act.put, List.setIfInBounds_toArray, List.set_cons_zero, List.set_cons_succ]
          refine take_at 6 61 (v := ?_) rfl rfl (by kernel_rfl) (by kernel_rfl) (by kernel_rfl) (Or.inl ⟨by rfl, ?_⟩) hHeld ?_
          rotate_left
          · intro w hSw; obtain ⟨s1, s2⟩ := hSw; go_simp; with_reducible rfl
          simp only [Act.put, List.setIfInBounds_toArray, List.set_cons_zero, List.set_cons_succ]
          refine wpAnyH_ready (rs := [4]) (by kernel_rfl) (by simp) ?_
          refine AllReadyH.cons rfl (fun K hK => ?_) AllReadyH.nil
          go_simp
          refine (kind_any q.word (unhide QOK).2.2.2.1 8 (by decide) (by decide) _).mono ?_
          rintro e w' ⟨rfl, rfl⟩
          go_wp2_with fail
          refine hK.out _ _ hHeld (fun hNew => ?_)
          clear hK K hNew
          refine wpAnyH_ready (rs := [7]) (by kernel_rfl) (by simp) ?_
          refine AllReadyH.cons rfl (fun K hK => ?_) AllReadyH.nil
          go_simp
          refine ((unhide HV).drew.store (ok_mono inv.ok (by omega)) _ _ ln (kindN q.word 8) (by first | rfl | omega) rfl (by rw [inv.n]; omega) (kindN_lt _ _ (by decide)) q.v).mono ?_
          rintro e w' ⟨rfl, h1, hs⟩
          have H1 := hide h1
          go_wp2_with fail
          refine hK.out _ _ ⟨by rw [World.cell?_of_block (w := V.drew) (hs L rfl)]; exact hHeld.1, by rw [World.cell?_of_block (w := V.drew) (hs L rfl)]; exact hHeld.2⟩ (fun hNew => ?_)
          clear hK K hNew hHeld h1 hs
          refine wpAnyH_done (by kernel_rfl) ?_ _
          refine NoPanic.normal ?_
          have inv1 := inv.store ln (kindN q.word 8) q.v hln7 (kindN_lt _ _ (by decide)) (unhide QOK).2.2.2.2.1
          obtain ⟨A1, hA1⟩ : ∃ A1, A1 = A.store ln (kindN q.word 8) q.v := ⟨_, rfl⟩
          rw [← hA1] at inv1 H1
          clear hA1 HV OI CK inv
          have hsm := hide (inv1.has)
          go_wp2_with fail
          refine ((unhide H1).load 7 7 rfl (by rw [inv1.n]; decide) inv1.on (by rw [inv1.n]; decide)).mono ?_
          rintro e w6 ⟨rfl, h1, -⟩
          have H5 : Hid (Has W w6 (fun _ => False) p A1) := h1.less (fun _ h => h.elim)
          clear h1 H1
          obtain ⟨f, hf⟩ : ∃ f, f = (A1.l 7).has := ⟨_, rfl⟩
          rw [← hf]
          have he : eqL f (at3 v) = true := by rw [hf, unhide hsm]; exact eqL_refl _
          clear hf hsm
          have hst := store_line f
          have hsz := lnV_size f
          go_upto_region 27 with fail
          clear hst hsz
          have HL := hide (heap_new w6 (.cells (lnV f) 34))
          have H6 := hide ((unhide H5).alloc (.cells (lnV f) 34))
          obtain ⟨M, hM⟩ : ∃ M, M = w6.heap.size := ⟨_, rfl⟩
          rw [← hM] at HL ⊢
          have H7 : Hid (Has W (w6.alloc (.cells (lnV f) 34)) (fun _ => False) p A1) := (unhide H6).less (fun _ h => h.elim)
          clear hM H5 H6
          generalize w6.alloc (.cells (lnV f) 34) = Y at *
          have s8 : (Try.prog.info? 34).map (·.size) = some (lnV f).size := by rw [lnV_size]; exact lsize
          go_wp2_with (first | (refine wpList_load_row_g (by rfl) 34 _ rfl M rfl _ _ _ _ (unhide HL) Try.underlying34 rfl s8 ?_) | (refine wpList_buildL (by rfl) _ rfl (at3 v) (built_3 v) ?_) | (refine wpList_neq (by rfl) (.tmp 100) (.tmp 102) rfl f (at3 v) rfl rfl ?_; rw [he]))
          go_roundw
          case rel => exact ⟨k + 1, by omega, by omega, by go_num, A1, unhide H7, by rw [← Nat.add_assoc]; exact inv1⟩
          case measure => simp [intOf]; omega
        · go_wp2_with fail
          refine (unhide CK).mono ?_
          rintro e V ⟨rfl, rfl⟩
          have g1 := (unhide OI).f1
          go_wp2_with fail
          refine (kind_any q.core (unhide QOK).2.1 8 (by decide) (by decide) _).mono ?_
          rintro e V ⟨rfl, rfl⟩
          go_wp2_with fail
          refine ((unhide HV).flush (ok_mono inv.ok (by omega)) _ _ (kindN q.core 8) ln rfl (by first | rfl | omega) (kindN_lt _ _ (by decide)) (by rw [inv.n]; omega)).mono ?_
          rintro e w' ⟨rfl, h1, -⟩
          have H1 := hide h1
          have inv1 := inv.flush (kindN q.core 8) ln hln7
          obtain ⟨A1, hA1⟩ : ∃ A1, A1 = A.flush (kindN q.core 8) ln := ⟨_, rfl⟩
          rw [← hA1] at inv1 H1
          clear hA1 HV OI CK inv h1 g1
          have hsm := hide (inv1.has)
          go_wp2_with fail
          refine ((unhide H1).load 7 7 rfl (by rw [inv1.n]; decide) inv1.on (by rw [inv1.n]; decide)).mono ?_
          rintro e w6 ⟨rfl, h1, -⟩
          have H5 : Hid (Has W w6 (fun _ => False) p A1) := h1.less (fun _ h => h.elim)
          clear h1 H1
          obtain ⟨f, hf⟩ : ∃ f, f = (A1.l 7).has := ⟨_, rfl⟩
          rw [← hf]
          have he : eqL f (at3 v) = true := by rw [hf, unhide hsm]; exact eqL_refl _
          clear hf hsm
          have hst := store_line f
          have hsz := lnV_size f
          go_upto_region 27 with fail
          clear hst hsz
          have HL := hide (heap_new w6 (.cells (lnV f) 34))
          have H6 := hide ((unhide H5).alloc (.cells (lnV f) 34))
          obtain ⟨M, hM⟩ : ∃ M, M = w6.heap.size := ⟨_, rfl⟩
          rw [← hM] at HL ⊢
          have H7 : Hid (Has W (w6.alloc (.cells (lnV f) 34)) (fun _ => False) p A1) := (unhide H6).less (fun _ h => h.elim)
          clear hM H5 H6
          generalize w6.alloc (.cells (lnV f) 34) = Y at *
          have s8 : (Try.prog.info? 34).map (·.size) = some (lnV f).size := by rw [lnV_size]; exact lsize
          go_wp2_with (first | (refine wpList_load_row_g (by rfl) 34 _ rfl M rfl _ _ _ _ (unhide HL) Try.underlying34 rfl s8 ?_) | (refine wpList_buildL (by rfl) _ rfl (at3 v) (built_3 v) ?_) | (refine wpList_neq (by rfl) (.tmp 100) (.tmp 102) rfl f (at3 v) rfl rfl ?_; rw [he]))
          go_roundw
          case rel => exact ⟨k + 1, by omega, by omega, by go_num, A1, unhide H7, by rw [← Nat.add_assoc]; exact inv1⟩
          case measure => simp [intOf]; omega
        · go_wp2_with fail
          refine (unhide CK).mono ?_
          rintro e V ⟨rfl, rfl⟩
          have g1 := (unhide OI).f1
          go_wp2_with fail
          refine (kind_any q.core (unhide QOK).2.1 8 (by decide) (by decide) _).mono ?_
          rintro e V ⟨rfl, rfl⟩
          go_wp2_with fail
          refine ((unhide HV).fence (ok_mono inv.ok (by omega)) _ (kindN q.core 8) rfl (kindN_lt _ _ (by decide))).mono ?_
          rintro e w' ⟨rfl, h1, -⟩
          have H1 := hide h1
          have inv1 := inv.fence (kindN q.core 8)
          obtain ⟨A1, hA1⟩ : ∃ A1, A1 = A.fence (kindN q.core 8) := ⟨_, rfl⟩
          rw [← hA1] at inv1 H1
          clear hA1 HV OI CK inv h1 g1
          have hsm := hide (inv1.has)
          go_wp2_with fail
          refine ((unhide H1).load 7 7 rfl (by rw [inv1.n]; decide) inv1.on (by rw [inv1.n]; decide)).mono ?_
          rintro e w6 ⟨rfl, h1, -⟩
          have H5 : Hid (Has W w6 (fun _ => False) p A1) := h1.less (fun _ h => h.elim)
          clear h1 H1
          obtain ⟨f, hf⟩ : ∃ f, f = (A1.l 7).has := ⟨_, rfl⟩
          rw [← hf]
          have he : eqL f (at3 v) = true := by rw [hf, unhide hsm]; exact eqL_refl _
          clear hf hsm
          have hst := store_line f
          have hsz := lnV_size f
          go_upto_region 27 with fail
          clear hst hsz
          have HL := hide (heap_new w6 (.cells (lnV f) 34))
          have H6 := hide ((unhide H5).alloc (.cells (lnV f) 34))
          obtain ⟨M, hM⟩ : ∃ M, M = w6.heap.size := ⟨_, rfl⟩
          rw [← hM] at HL ⊢
          have H7 : Hid (Has W (w6.alloc (.cells (lnV f) 34)) (fun _ => False) p A1) := (unhide H6).less (fun _ h => h.elim)
          clear hM H5 H6
          generalize w6.alloc (.cells (lnV f) 34) = Y at *
          have s8 : (Try.prog.info? 34).map (·.size) = some (lnV f).size := by rw [lnV_size]; exact lsize
          go_wp2_with (first | (refine wpList_load_row_g (by rfl) 34 _ rfl M rfl _ _ _ _ (unhide HL) Try.underlying34 rfl s8 ?_) | (refine wpList_buildL (by rfl) _ rfl (at3 v) (built_3 v) ?_) | (refine wpList_neq (by rfl) (.tmp 100) (.tmp 102) rfl f (at3 v) rfl rfl ?_; rw [he]))
          go_roundw
          case rel => exact ⟨k + 1, by omega, by omega, by go_num, A1, unhide H7, by rw [← Nat.add_assoc]; exact inv1⟩
          case measure => simp [intOf]; omega
        · go_wp2_with fail
          refine (unhide CK).mono ?_
          rintro e V ⟨rfl, rfl⟩
          have g1 := (unhide OI).f3
          go_wp2_with fail
          refine (kind_any q.word (unhide QOK).2.2.2.1 9 (by decide) (by decide) _).mono ?_
          rintro e V ⟨rfl, rfl⟩
          go_wp2_with fail
          refine ((unhide HV).evict (ok_mono inv.ok (by omega)) _ _ ln (kindN q.word 9) (by first | rfl | omega) rfl (by rw [inv.n]; omega) inv.on).mono ?_
          rintro e w' ⟨rfl, h1, -⟩
          have H1 := hide h1
          have inv1 := inv.evict ln (kindN q.word 9) hln7
          obtain ⟨A1, hA1⟩ : ∃ A1, A1 = A.evict ln (kindN q.word 9) := ⟨_, rfl⟩
          rw [← hA1] at inv1 H1
          clear hA1 HV OI CK inv h1 g1
          have hsm := hide (inv1.has)
          go_wp2_with fail
          refine ((unhide H1).load 7 7 rfl (by rw [inv1.n]; decide) inv1.on (by rw [inv1.n]; decide)).mono ?_
          rintro e w6 ⟨rfl, h1, -⟩
          have H5 : Hid (Has W w6 (fun _ => False) p A1) := h1.less (fun _ h => h.elim)
          clear h1 H1
          obtain ⟨f, hf⟩ : ∃ f, f = (A1.l 7).has := ⟨_, rfl⟩
          rw [← hf]
          have he : eqL f (at3 v) = true := by rw [hf, unhide hsm]; exact eqL_refl _
          clear hf hsm
          have hst := store_line f
          have hsz := lnV_size f
          go_upto_region 27 with fail
          clear hst hsz
          have HL := hide (heap_new w6 (.cells (lnV f) 34))
          have H6 := hide ((unhide H5).alloc (.cells (lnV f) 34))
          obtain ⟨M, hM⟩ : ∃ M, M = w6.heap.size := ⟨_, rfl⟩
          rw [← hM] at HL ⊢
          have H7 : Hid (Has W (w6.alloc (.cells (lnV f) 34)) (fun _ => False) p A1) := (unhide H6).less (fun _ h => h.elim)
          clear hM H5 H6
          generalize w6.alloc (.cells (lnV f) 34) = Y at *
          have s8 : (Try.prog.info? 34).map (·.size) = some (lnV f).size := by rw [lnV_size]; exact lsize
          go_wp2_with (first | (refine wpList_load_row_g (by rfl) 34 _ rfl M rfl _ _ _ _ (unhide HL) Try.underlying34 rfl s8 ?_) | (refine wpList_buildL (by rfl) _ rfl (at3 v) (built_3 v) ?_) | (refine wpList_neq (by rfl) (.tmp 100) (.tmp 102) rfl f (at3 v) rfl rfl ?_; rw [he]))
          go_roundw
          case rel => exact ⟨k + 1, by omega, by omega, by go_num, A1, unhide H7, by rw [← Nat.add_assoc]; exact inv1⟩
          case measure => simp [intOf]; omega
        · go_wp2_with fail
          refine (unhide CK).mono ?_
          rintro e V ⟨rfl, rfl⟩
          have g1 := (unhide OI).f5
          go_wp2_with fail
          refine ((unhide HV).crash_arg (ok_mono inv.ok (by omega)) q.ka q.keep q.kcap (unhide QOK).2.2.2.2.2.2.1 (unhide QOK).2.2.2.2.2.2.2 (unhide QOK).2.2.2.2.2.1).mono ?_
          rintro e w' ⟨rfl, h1, -⟩
          have H1 := hide h1
          have inv1 := inv.crash q.keep
          obtain ⟨A1, hA1⟩ : ∃ A1, A1 = A.crash q.keep := ⟨_, rfl⟩
          rw [← hA1] at inv1 H1
          clear hA1 HV OI CK inv h1 g1
          have hsm := hide (inv1.has)
          go_wp2_with fail
          refine ((unhide H1).load 7 7 rfl (by rw [inv1.n]; decide) inv1.on (by rw [inv1.n]; decide)).mono ?_
          rintro e w6 ⟨rfl, h1, -⟩
          have H5 : Hid (Has W w6 (fun _ => False) p A1) := h1.less (fun _ h => h.elim)
          clear h1 H1
          obtain ⟨f, hf⟩ : ∃ f, f = (A1.l 7).has := ⟨_, rfl⟩
          rw [← hf]
          have he : eqL f (at3 v) = true := by rw [hf, unhide hsm]; exact eqL_refl _
          clear hf hsm
          have hst := store_line f
          have hsz := lnV_size f
          go_upto_region 27 with fail
          clear hst hsz
          have HL := hide (heap_new w6 (.cells (lnV f) 34))
          have H6 := hide ((unhide H5).alloc (.cells (lnV f) 34))
          obtain ⟨M, hM⟩ : ∃ M, M = w6.heap.size := ⟨_, rfl⟩
          rw [← hM] at HL ⊢
          have H7 : Hid (Has W (w6.alloc (.cells (lnV f) 34)) (fun _ => False) p A1) := (unhide H6).less (fun _ h => h.elim)
          clear hM H5 H6
          generalize w6.alloc (.cells (lnV f) 34) = Y at *
          have s8 : (Try.prog.info? 34).map (·.size) = some (lnV f).size := by rw [lnV_size]; exact lsize
          go_wp2_with (first | (refine wpList_load_row_g (by rfl) 34 _ rfl M rfl _ _ _ _ (unhide HL) Try.underlying34 rfl s8 ?_) | (refine wpList_buildL (by rfl) _ rfl (at3 v) (built_3 v) ?_) | (refine wpList_neq (by rfl) (.tmp 100) (.tmp 102) rfl f (at3 v) rfl rfl ?_; rw [he]))
          go_roundw
          case rel => exact ⟨k + 1, by omega, by omega, by go_num, A1, unhide H7, by rw [← Nat.add_assoc]; exact inv1⟩
          case measure => simp [intOf]; omega
      · obtain ⟨ln, hln⟩ : ∃ ln, ln = kindN q.line 64 := ⟨_, rfl⟩
        rw [← hln] at h7 hl64 ⊢
        clear hln
        have hln7 : ln ≠ 7 := h7
        have hne7 : ((ln : Int) == 7) = false := beq_eq_false_iff_ne.2 (by omega)
        rcases (show kd = 0 ∨ kd = 1 ∨ kd = 2 ∨ kd = 3 ∨ kd = 4 by omega) with rfl | rfl | rfl | rfl | rfl
        · go_wp2_with fail
          refine (unhide CK).mono ?_
          rintro e V ⟨rfl, rfl⟩
          go_upto_region 17 with fail
          refine wp_region_noPanic ?_
          refine wp_region_held_drew (S := fun w' => w'.cell? ⟨L, 3, none⟩ = some (.int .i64 q.word) ∧ w'.cell? ⟨L, 4, none⟩ = some (.int .u64 q.v)) (by kernel_rfl) ⟨(unhide OI).f3, (unhide OI).f4⟩ (fun hHeld => ?_)
          refine take_at 0 55 (v := ?_) rfl rfl (by kernel_rfl) (by kernel_rfl) (by kernel_rfl) (Or.inl ⟨by rfl, ?_⟩) hHeld ?_
          rotate_left
          · intro w hSw; go_simp; with_reducible rfl
          simp only [Act.put, List.setIfInBounds_toArray, List.set_cons_zero, List.set_cons_succ]
          refine take_at 1 56 (v := ?_) rfl rfl (by kernel_rfl) (by kernel_rfl) (by kernel_rfl) (Or.inl ⟨by rfl, ?_⟩) hHeld ?_
          rotate_left
          · intro w hSw; go_simp; with_reducible rfl
          simp only [Act.put, List.setIfInBounds_toArray, List.set_cons_zero, List.set_cons_succ]
          refine take_at 2 57 (v := ?_) rfl rfl (by kernel_rfl) (by kernel_rfl) (by kernel_rfl) (Or.inl ⟨by rfl, ?_⟩) hHeld ?_
          rotate_left
          · intro w hSw; go_simp; with_reducible rfl
          simp only [Act.put, List.setIfInBounds_toArray, List.set_cons_zero, List.set_cons_succ]
          refine take_at 3 58 (v := ?_) rfl rfl (by kernel_rfl) (by kernel_rfl) (by kernel_rfl) (Or.inl ⟨by rfl, ?_⟩) hHeld ?_
          rotate_left
          · intro w hSw; obtain ⟨s1, s2⟩ := hSw; go_simp; with_reducible rfl
          simp only [Act.put, List.setIfInBounds_toArray, List.set_cons_zero, List.set_cons_succ]
          refine take_at 5 60 (v := ?_) rfl rfl (by kernel_rfl) (by kernel_rfl) (by kernel_rfl) (Or.inl ⟨by rfl, ?_⟩) hHeld ?_
          rotate_left
          · intro w hSw; go_simp; with_reducible rfl
          simp only [Act.put, List.setIfInBounds_toArray, List.set_cons_zero, List.set_cons_succ]
          refine take_at 6 61 (v := ?_) rfl rfl (by kernel_rfl) (by kernel_rfl) (by kernel_rfl) (Or.inl ⟨by rfl, ?_⟩) hHeld ?_
          rotate_left
          · intro w hSw; obtain ⟨s1, s2⟩ := hSw; go_simp; with_reducible rfl
          simp only [Act.put, List.setIfInBounds_toArray, List.set_cons_zero, List.set_cons_succ]
          refine wpAnyH_ready (rs := [4]) (by kernel_rfl) (by simp) ?_
          refine AllReadyH.cons rfl (fun K hK => ?_) AllReadyH.nil
          go_simp
          refine (kind_any q.word (unhide QOK).2.2.2.1 8 (by decide) (by decide) _).mono ?_
          rintro e w' ⟨rfl, rfl⟩
          go_wp2_with fail
          refine hK.out _ _ hHeld (fun hNew => ?_)
          clear hK K hNew
          refine wpAnyH_ready (rs := [7]) (by kernel_rfl) (by simp) ?_
          refine AllReadyH.cons rfl (fun K hK => ?_) AllReadyH.nil
          go_simp
          refine ((unhide HV).drew.store (ok_mono inv.ok (by omega)) _ _ ln (kindN q.word 8) (by first | rfl | omega) rfl (by rw [inv.n]; omega) (kindN_lt _ _ (by decide)) q.v).mono ?_
          rintro e w' ⟨rfl, h1, hs⟩
          have H1 := hide h1
          go_wp2_with fail
          refine hK.out _ _ ⟨by rw [World.cell?_of_block (w := V.drew) (hs L rfl)]; exact hHeld.1, by rw [World.cell?_of_block (w := V.drew) (hs L rfl)]; exact hHeld.2⟩ (fun hNew => ?_)
          clear hK K hNew hHeld h1 hs
          refine wpAnyH_done (by kernel_rfl) ?_ _
          refine NoPanic.normal ?_
          have inv1 := inv.store ln (kindN q.word 8) q.v hln7 (kindN_lt _ _ (by decide)) (unhide QOK).2.2.2.2.1
          obtain ⟨A1, hA1⟩ : ∃ A1, A1 = A.store ln (kindN q.word 8) q.v := ⟨_, rfl⟩
          rw [← hA1] at inv1 H1
          clear hA1 HV OI CK inv
          have hsm := hide (inv1.has)
          go_wp2_with fail
          refine ((unhide H1).load 7 7 rfl (by rw [inv1.n]; decide) inv1.on (by rw [inv1.n]; decide)).mono ?_
          rintro e w6 ⟨rfl, h1, -⟩
          have H5 : Hid (Has W w6 (fun _ => False) p A1) := h1.less (fun _ h => h.elim)
          clear h1 H1
          obtain ⟨f, hf⟩ : ∃ f, f = (A1.l 7).has := ⟨_, rfl⟩
          rw [← hf]
          have he : eqL f (at3 v) = true := by rw [hf, unhide hsm]; exact eqL_refl _
          clear hf hsm
          have hst := store_line f
          have hsz := lnV_size f
          go_upto_region 27 with fail
          clear hst hsz
          have HL := hide (heap_new w6 (.cells (lnV f) 34))
          have H6 := hide ((unhide H5).alloc (.cells (lnV f) 34))
          obtain ⟨M, hM⟩ : ∃ M, M = w6.heap.size := ⟨_, rfl⟩
          rw [← hM] at HL ⊢
          have H7 : Hid (Has W (w6.alloc (.cells (lnV f) 34)) (fun _ => False) p A1) := (unhide H6).less (fun _ h => h.elim)
          clear hM H5 H6
          generalize w6.alloc (.cells (lnV f) 34) = Y at *
          have s8 : (Try.prog.info? 34).map (·.size) = some (lnV f).size := by rw [lnV_size]; exact lsize
          go_wp2_with (first | (refine wpList_load_row_g (by rfl) 34 _ rfl M rfl _ _ _ _ (unhide HL) Try.underlying34 rfl s8 ?_) | (refine wpList_buildL (by rfl) _ rfl (at3 v) (built_3 v) ?_) | (refine wpList_neq (by rfl) (.tmp 100) (.tmp 102) rfl f (at3 v) rfl rfl ?_; rw [he]))
          go_roundw
          case rel => exact ⟨k + 1, by omega, by omega, by go_num, A1, unhide H7, by rw [← Nat.add_assoc]; exact inv1⟩
          case measure => simp [intOf]; omega
        · go_wp2_with fail
          refine (unhide CK).mono ?_
          rintro e V ⟨rfl, rfl⟩
          have g1 := (unhide OI).f1
          go_wp2_with fail
          refine (kind_any q.core (unhide QOK).2.1 8 (by decide) (by decide) _).mono ?_
          rintro e V ⟨rfl, rfl⟩
          go_wp2_with fail
          refine ((unhide HV).flush (ok_mono inv.ok (by omega)) _ _ (kindN q.core 8) ln rfl (by first | rfl | omega) (kindN_lt _ _ (by decide)) (by rw [inv.n]; omega)).mono ?_
          rintro e w' ⟨rfl, h1, -⟩
          have H1 := hide h1
          have inv1 := inv.flush (kindN q.core 8) ln hln7
          obtain ⟨A1, hA1⟩ : ∃ A1, A1 = A.flush (kindN q.core 8) ln := ⟨_, rfl⟩
          rw [← hA1] at inv1 H1
          clear hA1 HV OI CK inv h1 g1
          have hsm := hide (inv1.has)
          go_wp2_with fail
          refine ((unhide H1).load 7 7 rfl (by rw [inv1.n]; decide) inv1.on (by rw [inv1.n]; decide)).mono ?_
          rintro e w6 ⟨rfl, h1, -⟩
          have H5 : Hid (Has W w6 (fun _ => False) p A1) := h1.less (fun _ h => h.elim)
          clear h1 H1
          obtain ⟨f, hf⟩ : ∃ f, f = (A1.l 7).has := ⟨_, rfl⟩
          rw [← hf]
          have he : eqL f (at3 v) = true := by rw [hf, unhide hsm]; exact eqL_refl _
          clear hf hsm
          have hst := store_line f
          have hsz := lnV_size f
          go_upto_region 27 with fail
          clear hst hsz
          have HL := hide (heap_new w6 (.cells (lnV f) 34))
          have H6 := hide ((unhide H5).alloc (.cells (lnV f) 34))
          obtain ⟨M, hM⟩ : ∃ M, M = w6.heap.size := ⟨_, rfl⟩
          rw [← hM] at HL ⊢
          have H7 : Hid (Has W (w6.alloc (.cells (lnV f) 34)) (fun _ => False) p A1) := (unhide H6).less (fun _ h => h.elim)
          clear hM H5 H6
          generalize w6.alloc (.cells (lnV f) 34) = Y at *
          have s8 : (Try.prog.info? 34).map (·.size) = some (lnV f).size := by rw [lnV_size]; exact lsize
          go_wp2_with (first | (refine wpList_load_row_g (by rfl) 34 _ rfl M rfl _ _ _ _ (unhide HL) Try.underlying34 rfl s8 ?_) | (refine wpList_buildL (by rfl) _ rfl (at3 v) (built_3 v) ?_) | (refine wpList_neq (by rfl) (.tmp 100) (.tmp 102) rfl f (at3 v) rfl rfl ?_; rw [he]))
          go_roundw
          case rel => exact ⟨k + 1, by omega, by omega, by go_num, A1, unhide H7, by rw [← Nat.add_assoc]; exact inv1⟩
          case measure => simp [intOf]; omega
        · go_wp2_with fail
          refine (unhide CK).mono ?_
          rintro e V ⟨rfl, rfl⟩
          have g1 := (unhide OI).f1
          go_wp2_with fail
          refine (kind_any q.core (unhide QOK).2.1 8 (by decide) (by decide) _).mono ?_
          rintro e V ⟨rfl, rfl⟩
          go_wp2_with fail
          refine ((unhide HV).fence (ok_mono inv.ok (by omega)) _ (kindN q.core 8) rfl (kindN_lt _ _ (by decide))).mono ?_
          rintro e w' ⟨rfl, h1, -⟩
          have H1 := hide h1
          have inv1 := inv.fence (kindN q.core 8)
          obtain ⟨A1, hA1⟩ : ∃ A1, A1 = A.fence (kindN q.core 8) := ⟨_, rfl⟩
          rw [← hA1] at inv1 H1
          clear hA1 HV OI CK inv h1 g1
          have hsm := hide (inv1.has)
          go_wp2_with fail
          refine ((unhide H1).load 7 7 rfl (by rw [inv1.n]; decide) inv1.on (by rw [inv1.n]; decide)).mono ?_
          rintro e w6 ⟨rfl, h1, -⟩
          have H5 : Hid (Has W w6 (fun _ => False) p A1) := h1.less (fun _ h => h.elim)
          clear h1 H1
          obtain ⟨f, hf⟩ : ∃ f, f = (A1.l 7).has := ⟨_, rfl⟩
          rw [← hf]
          have he : eqL f (at3 v) = true := by rw [hf, unhide hsm]; exact eqL_refl _
          clear hf hsm
          have hst := store_line f
          have hsz := lnV_size f
          go_upto_region 27 with fail
          clear hst hsz
          have HL := hide (heap_new w6 (.cells (lnV f) 34))
          have H6 := hide ((unhide H5).alloc (.cells (lnV f) 34))
          obtain ⟨M, hM⟩ : ∃ M, M = w6.heap.size := ⟨_, rfl⟩
          rw [← hM] at HL ⊢
          have H7 : Hid (Has W (w6.alloc (.cells (lnV f) 34)) (fun _ => False) p A1) := (unhide H6).less (fun _ h => h.elim)
          clear hM H5 H6
          generalize w6.alloc (.cells (lnV f) 34) = Y at *
          have s8 : (Try.prog.info? 34).map (·.size) = some (lnV f).size := by rw [lnV_size]; exact lsize
          go_wp2_with (first | (refine wpList_load_row_g (by rfl) 34 _ rfl M rfl _ _ _ _ (unhide HL) Try.underlying34 rfl s8 ?_) | (refine wpList_buildL (by rfl) _ rfl (at3 v) (built_3 v) ?_) | (refine wpList_neq (by rfl) (.tmp 100) (.tmp 102) rfl f (at3 v) rfl rfl ?_; rw [he]))
          go_roundw
          case rel => exact ⟨k + 1, by omega, by omega, by go_num, A1, unhide H7, by rw [← Nat.add_assoc]; exact inv1⟩
          case measure => simp [intOf]; omega
        · go_wp2_with fail
          refine (unhide CK).mono ?_
          rintro e V ⟨rfl, rfl⟩
          have g1 := (unhide OI).f3
          go_wp2_with fail
          refine (kind_any q.word (unhide QOK).2.2.2.1 9 (by decide) (by decide) _).mono ?_
          rintro e V ⟨rfl, rfl⟩
          go_wp2_with fail
          refine ((unhide HV).evict (ok_mono inv.ok (by omega)) _ _ ln (kindN q.word 9) (by first | rfl | omega) rfl (by rw [inv.n]; omega) inv.on).mono ?_
          rintro e w' ⟨rfl, h1, -⟩
          have H1 := hide h1
          have inv1 := inv.evict ln (kindN q.word 9) hln7
          obtain ⟨A1, hA1⟩ : ∃ A1, A1 = A.evict ln (kindN q.word 9) := ⟨_, rfl⟩
          rw [← hA1] at inv1 H1
          clear hA1 HV OI CK inv h1 g1
          have hsm := hide (inv1.has)
          go_wp2_with fail
          refine ((unhide H1).load 7 7 rfl (by rw [inv1.n]; decide) inv1.on (by rw [inv1.n]; decide)).mono ?_
          rintro e w6 ⟨rfl, h1, -⟩
          have H5 : Hid (Has W w6 (fun _ => False) p A1) := h1.less (fun _ h => h.elim)
          clear h1 H1
          obtain ⟨f, hf⟩ : ∃ f, f = (A1.l 7).has := ⟨_, rfl⟩
          rw [← hf]
          have he : eqL f (at3 v) = true := by rw [hf, unhide hsm]; exact eqL_refl _
          clear hf hsm
          have hst := store_line f
          have hsz := lnV_size f
          go_upto_region 27 with fail
          clear hst hsz
          have HL := hide (heap_new w6 (.cells (lnV f) 34))
          have H6 := hide ((unhide H5).alloc (.cells (lnV f) 34))
          obtain ⟨M, hM⟩ : ∃ M, M = w6.heap.size := ⟨_, rfl⟩
          rw [← hM] at HL ⊢
          have H7 : Hid (Has W (w6.alloc (.cells (lnV f) 34)) (fun _ => False) p A1) := (unhide H6).less (fun _ h => h.elim)
          clear hM H5 H6
          generalize w6.alloc (.cells (lnV f) 34) = Y at *
          have s8 : (Try.prog.info? 34).map (·.size) = some (lnV f).size := by rw [lnV_size]; exact lsize
          go_wp2_with (first | (refine wpList_load_row_g (by rfl) 34 _ rfl M rfl _ _ _ _ (unhide HL) Try.underlying34 rfl s8 ?_) | (refine wpList_buildL (by rfl) _ rfl (at3 v) (built_3 v) ?_) | (refine wpList_neq (by rfl) (.tmp 100) (.tmp 102) rfl f (at3 v) rfl rfl ?_; rw [he]))
          go_roundw
          case rel => exact ⟨k + 1, by omega, by omega, by go_num, A1, unhide H7, by rw [← Nat.add_assoc]; exact inv1⟩
          case measure => simp [intOf]; omega
        · go_wp2_with fail
          refine (unhide CK).mono ?_
          rintro e V ⟨rfl, rfl⟩
          have g1 := (unhide OI).f5
          go_wp2_with fail
          refine ((unhide HV).crash_arg (ok_mono inv.ok (by omega)) q.ka q.keep q.kcap (unhide QOK).2.2.2.2.2.2.1 (unhide QOK).2.2.2.2.2.2.2 (unhide QOK).2.2.2.2.2.1).mono ?_
          rintro e w' ⟨rfl, h1, -⟩
          have H1 := hide h1
          have inv1 := inv.crash q.keep
          obtain ⟨A1, hA1⟩ : ∃ A1, A1 = A.crash q.keep := ⟨_, rfl⟩
          rw [← hA1] at inv1 H1
          clear hA1 HV OI CK inv h1 g1
          have hsm := hide (inv1.has)
          go_wp2_with fail
          refine ((unhide H1).load 7 7 rfl (by rw [inv1.n]; decide) inv1.on (by rw [inv1.n]; decide)).mono ?_
          rintro e w6 ⟨rfl, h1, -⟩
          have H5 : Hid (Has W w6 (fun _ => False) p A1) := h1.less (fun _ h => h.elim)
          clear h1 H1
          obtain ⟨f, hf⟩ : ∃ f, f = (A1.l 7).has := ⟨_, rfl⟩
          rw [← hf]
          have he : eqL f (at3 v) = true := by rw [hf, unhide hsm]; exact eqL_refl _
          clear hf hsm
          have hst := store_line f
          have hsz := lnV_size f
          go_upto_region 27 with fail
          clear hst hsz
          have HL := hide (heap_new w6 (.cells (lnV f) 34))
          have H6 := hide ((unhide H5).alloc (.cells (lnV f) 34))
          obtain ⟨M, hM⟩ : ∃ M, M = w6.heap.size := ⟨_, rfl⟩
          rw [← hM] at HL ⊢
          have H7 : Hid (Has W (w6.alloc (.cells (lnV f) 34)) (fun _ => False) p A1) := (unhide H6).less (fun _ h => h.elim)
          clear hM H5 H6
          generalize w6.alloc (.cells (lnV f) 34) = Y at *
          have s8 : (Try.prog.info? 34).map (·.size) = some (lnV f).size := by rw [lnV_size]; exact lsize
          go_wp2_with (first | (refine wpList_load_row_g (by rfl) 34 _ rfl M rfl _ _ _ _ (unhide HL) Try.underlying34 rfl s8 ?_) | (refine wpList_buildL (by rfl) _ rfl (at3 v) (built_3 v) ?_) | (refine wpList_neq (by rfl) (.tmp 100) (.tmp 102) rfl f (at3 v) rfl rfl ?_; rw [he]))
          go_roundw
          case rel => exact ⟨k + 1, by omega, by omega, by go_num, A1, unhide H7, by rw [← Nat.add_assoc]; exact inv1⟩
          case measure => simp [intOf]; omega
    · by_cases h1 : k < n
      · have h2 : ¬ ((k : Int) < 80) := by omega
        have h1' : (k : Int) < (n : Int) := by omega
        go_wp2_with fail
        go_ret
        exact ⟨rfl, (unhide HA).keeps.below (Nat.le_refl _) (fun _ h => h.elim)⟩
      · have h1' : ¬ ((k : Int) < (n : Int)) := by omega
        go_wp2_with fail
        go_ret
        exact ⟨rfl, (unhide HA).keeps.below (Nat.le_refl _) (fun _ h => h.elim)⟩

set_option maxRecDepth 100000 in
theorem lifted (os : Os) (started : os.Started) (H : Type) (enc : TypeId × Value → H) :
    ReturnsInHanded {} Try.checked os 4 .any (Rows.nvmApartSpec.pre6 enc Try.prog Try.f4 Rows.nvmApartRow.domain false) (Rows.nvmApartSpec.post enc Try.prog Try.f4 false true false false) := by
  refine law_frame (C := Try.checked) (ts := [38, 22]) (tb := 4) (by kernel_rfl) started (by kernel_rfl) Try.func4 Try.params4 (by kernel_rfl) Try.underlying4 (by kernel_rfl) (by kernel_rfl) rfl ?_
    (ChangeSpec.witness6 (enc := enc) (C := Try.checked) false ⟨#[], #[.slice none 0 0, .int .u64 0], []⟩ 8 (by kernel_rfl) (by kernel_rfl) (by kernel_rfl) (by kernel_rfl)) ?_
  · intro ds hd
    match ds, hd with
    | [d0, d1], _ => rfl
  · intro W base args ds p hval hA
    obtain ⟨v0, vs0, d0, ds0, p0, q0, hargs, rfl, rfl, h0, r0⟩ := trodAll_cons hA
    obtain ⟨v1, vs1, d1, ds1, p1, q1, rfl, rfl, rfl, h1, r1⟩ := trodAll_cons r0
    obtain ⟨rfl, rfl, rfl⟩ := trodAll_nil r1
    obtain rfl : args = #[v0, v1] := by cases args; simp_all
    obtain ⟨a, n, cap, o, rfl, hO⟩ := open_ops (hval 0 38 v0 rfl rfl) h0
    obtain ⟨v, rfl, rfl, rfl, wv⟩ := open_int Try.underlying22 (hval 1 22 v1 rfl rfl) h1
    exact walk W a n cap o v hO wv

theorem over : Rows.nvmApartRow.holds Try.pinned (OpenSpec.ofChange Rows.nvmApartSpec) :=
  OpenClaim.holds_of_wide 4 Try.f4 rfl rfl rfl rfl rfl rfl rfl ⟨rfl, rfl, rfl, rfl, rfl⟩ rfl rfl rfl rfl rfl (by kernel_rfl) Try.func4 (by kernel_rfl)
    (of_decide_eq_true (by kernel_rfl)) (by unfold Func.isWrapper; first | (rw [if_pos (by decide +kernel)]; kernel_rfl) | (rw [if_neg (by decide +kernel)]; exact ⟨rfl, rfl⟩))
    (fun os started H enc _ => lifted os started H enc)

end Go.Proofs.Ytkbafneoffcecab.nvmApart
namespace Go.Proofs.Ytkbafneoffcecab
theorem nvmApart_holds : Rows.NvmApartSaid := nvmApart.over
end Go.Proofs.Ytkbafneoffcecab
