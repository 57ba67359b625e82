/-
  For every row of calls, NvmLast returns true and leaves its arguments as they were: a line has what was stored last to each word, whatever is flushed, fenced or evicted in between. No condition.
-/
import Derived.Test.YtkbafneoffcecaaNSame
import Derived.Test.YtkbafneoffcecaaLaw
import Derived.Test.YtkbafneoffcecaaRows
namespace Go.Proofs.Ytkbafneoffcecaa.nvmLast
open Go.ChangeShapes Go.WideShapes Go.ChangeAt Go.RowKit Go.Joins
set_option linter.unusedVariables false
set_option linter.unusedSimpArgs false

structure Inv (i : Nat) (A : Mm) : Prop where
  ok : A.ok i
  n : A.n = 64
  on : A.on = true
  fuse : A.fuse = -1
theorem Inv.may {i : Nat} {A : Mm} (h : Inv i A) : A.may = true := by simp [Mm.may, h.on, h.fuse]
theorem Inv.err {i : Nat} {A : Mm} (h : Inv i A) : A.err = 0 := by unfold Mm.err; rw [h.may]; rfl
theorem Inv.stepped {i : Nat} {A : Mm} (h : Inv i A) (l : Nat → Ln) : A.step l = A.stepped l := by unfold Mm.step; rw [h.may]; rfl
theorem Inv.step {i : Nat} {A : Mm} (h : Inv i A) (l : Nat → Ln) (hok : (A.step l).ok (i + 1)) : Inv (i + 1) (A.step l) := by
  rw [h.stepped] at hok ⊢
  exact ⟨hok, h.n, h.on, by simp [Mm.stepped, h.fuse]⟩
theorem Inv.more {i : Nat} {A : Mm} (h : Inv i A) : Inv (i + 1) A := ⟨ok_mono h.ok (by omega), h.n, h.on, h.fuse⟩
theorem Inv.flushZ {i : Nat} {A : Mm} (h : Inv i A) (y z : Int) : Inv (i + 1) (A.flushZ y z) ∧ ∀ j, ((A.flushZ y z).l j).has = (A.l j).has := by
  unfold Mm.flushZ
  split
  · refine ⟨h.step _ (ok_flush h.ok _ _), fun j => ?_⟩
    unfold Mm.flush; rw [h.stepped]
    show (upd A.l z.toNat ((A.l z.toNat).flush y.toNat) j).has = _
    by_cases e : j = z.toNat
    · rw [e, upd_same]; rfl
    · rw [upd_other _ _ _ _ e]
  · exact ⟨h.more, fun _ => rfl⟩
theorem Inv.fenceZ {i : Nat} {A : Mm} (h : Inv i A) (y : Int) : Inv (i + 1) (A.fenceZ y) ∧ ∀ j, ((A.fenceZ y).l j).has = (A.l j).has := by
  unfold Mm.fenceZ
  split
  · refine ⟨h.step _ (ok_fence h.ok _), fun j => ?_⟩
    unfold Mm.fence; rw [h.stepped]
    exact Ln.settle_has _ _
  · exact ⟨h.more, fun _ => rfl⟩
theorem Inv.evictZ {i : Nat} {A : Mm} (h : Inv i A) (z y : Int) : Inv (i + 1) (A.evictZ z y) ∧ ∀ j, ((A.evictZ z y).l j).has = (A.l j).has := by
  unfold Mm.evictZ
  split
  · refine ⟨⟨ok_mono (ok_evict h.ok _ _) (by omega), h.n, h.on, h.fuse⟩, fun j => ?_⟩
    show (upd A.l z.toNat _ j).has = _
    by_cases e : j = z.toNat
    · rw [e, upd_same]; exact Ln.settle_has _ _
    · rw [upd_other _ _ _ _ e]
  · exact ⟨h.more, fun _ => rfl⟩
theorem Inv.store {i : Nat} {A : Mm} (h : Inv i A) (k q : Nat) (v : Int) (hq : q < 8) (hv : InU v) : Inv (i + 1) (A.store k q v) ∧ ∀ j, ((A.store k q v).l j).has = if j = k then upd (A.l k).has q v else (A.l j).has := by
  refine ⟨h.step _ (ok_store h.ok k q v hq hv), fun j => ?_⟩
  unfold Mm.store; rw [h.stepped]
  show (upd A.l k ((A.l k).store q v) j).has = _
  by_cases e : j = k
  · rw [e, upd_same, if_pos rfl]; exact Ln.store_has _ _ _
  · rw [upd_other _ _ _ _ e, if_neg e]
theorem row_congr {w : World} {g n : Nat} {s t : Nat → Nat → Int} (h : RowL w g n s) (e : ∀ j, s j = t j) : RowL w g n t := by
  have : s = t := funext e
  rw [← this]; exact h
theorem row_set {w : World} {g n : Nat} {s : Nat → Nat → Int} (h : RowL w g n s) (k q : Nat) (v : Int) (hq : q < 8) : RowL (w.setCell ⟨g, k * 8 + q, none⟩ (.int .u64 v)) g n (fun j => if j = k then upd (s k) q v else s j) := by
  refine Blk.ext (Blk.set h (k * 8 + q) (.int .u64 v)) fun i hi => ?_
  unfold upd
  by_cases e : i = k * 8 + q
  · rw [if_pos e]; subst e
    simp [show (k * 8 + q) / 8 = k by omega, show (k * 8 + q) % 8 = q by omega]
  · rw [if_neg e]
    by_cases e2 : i / 8 = k
    · simp only [e2, if_true]
      rw [if_neg (by omega)]
    · simp only [e2, if_false]

def a0 : Mm := Mm.new 64 fun _ _ => 0
theorem inv0 : Inv 0 a0 := ⟨ok_new (by decide) (by decide) (fun _ _ => ⟨by decide, by decide⟩), rfl, rfl, rfl⟩

set_option maxRecDepth 100000 in
set_option maxHeartbeats 4000000 in
theorem walk (W : World) (a : Option Addr) (n cap : Nat) (o : Nat → OpV) (hO : OpsAt W a n cap o) :
    Calls Try.prog 6 #[.slice a n cap] W fun e W' => e = .returned (.bool true) ∧ Below W.heap.size W W' := by
  obtain ⟨hn, hops⟩ := hO
  have HO := hide hops
  clear hops
  go_enter Try.func6, Try.ntmps6
  go_wp2_with fail
  refine (shown_any W).mono ?_
  rintro e w0 ⟨rfl, hk0⟩
  go_wp2_with fail
  refine (new_any w0 64 (by decide) (by decide)).mono ?_
  intro e w1 hm
  obtain ⟨p, rfl, h0, -⟩ := made_has W hk0 hm (fun _ => False) (fun _ h => h.elim)
  have H0 : Hid (Has W w1 (fun _ => False) p a0) := h0
  clear hm h0 hk0
  obtain ⟨i0, hi, hz0, hz1, hz2⟩ := info_parts info_line
  go_upto_region 6 with (at_make; refine wpList_make_full _ rfl _ _ 42 rfl w1.heap.size 50 i0 _ 8 Try.underlying42 hi hz0 hz1 .i64 .i64 _ _ 64 rfl rfl rfl rfl (by rw [hz2]; decide) (by decide) (Nat.le_refl _) ?_; intro w2 hown hgrow)
  have hb : RowL w2 w1.heap.size 64 fun i => (a0.l i).has := made_blk hown fun i _ => by
    show (lnV fun _ => 0)[i % (lnV fun _ => 0).size]! = _
    rw [lnV_size]
    have := tab_get 8 (fun _ => Value.int .u64 0) (i % 8) (Nat.mod_lt _ (by decide))
    rw [getElem!_def, show (lnV fun _ => 0)[i % 8]? = _ from this]
    rfl
  have HK2 : Hid (Keeps (fun _ => False) w1 w2) := Keeps.grown (Keeps.refl _ _) hgrow (fun k hk => by simp at hk)
  have H2 : Hid (Has W w2 (fun k => k = w1.heap.size) p a0) := by
    obtain ⟨F, c, cs, r1, r2, r3, r4⟩ := unhide H0
    refine ⟨F, c, cs, r1.keeps (unhide HK2) (fun _ _ => id), r2.trans' (unhide HK2), r3, fun k hk => ?_⟩
    subst hk
    exact ⟨by have := r1.fresh 0; simpa using this, hb.lt⟩
  have HWG : Hid (W.heap.size ≤ w1.heap.size) := (unhide H0).keeps.size
  have RB := hide hb
  obtain ⟨g, hg⟩ : ∃ g, g = w1.heap.size := ⟨_, rfl⟩
  rw [← hg] at H2 RB HWG ⊢
  clear hown hgrow hb hi hz0 hz1 hz2 i0 HK2 H0 hg
  go_wp2_with fail
  go_loopw [7] (fun i wr => ∃ k : Nat, k ≤ n ∧ k ≤ 100 ∧ i = .int .i64 k ∧ ∃ A, Has W wr (fun k => k = g) p A ∧ Inv k A ∧ RowL wr g 64 fun i => (A.l i).has) (fun i _ => n - (intOf i).toNat)
  case atStart => exact ⟨0, by omega, by omega, rfl, a0, unhide H2, inv0, unhide RB⟩
  case round =>
    clear H2 RB
    obtain ⟨k, hk, hk80, rfl, A, hA, inv, hra⟩ := hrel
    have HA := hide hA
    have RA := hide hra
    clear hA hra
    by_cases hlt : k < n ∧ k < 100
    · obtain ⟨hlt, hl8⟩ := hlt
      obtain ⟨x, off, rfl, hx⟩ : ∃ b off, a = some ⟨b, off, none⟩ ∧ ∀ i, i < n → OpAt W b (off + i * 6) (o i) := by
        rcases unhide HO with h | h
        · omega
        · exact h
      obtain ⟨hq, hqok⟩ := hx k hlt
      obtain ⟨q, hqe⟩ : ∃ q, q = o k := ⟨_, rfl⟩
      rw [← hqe] at hq hqok
      have HQ : Hid (wr.rangeAt x (off + k * 6) (opV q).toList) := rangeAt_keeps hq (unhide HA).keeps id
      have QOK := hide hqok
      clear hx hqe hq hqok
      have s6 : (Try.prog.info? 35).map (·.size) = some (opV q).toList.length := by rw [Array.length_toList, opV_size]; exact osize
      have hst := store_op q
      have hsz := opV_size q
      have hlt' : (k : Int) < (n : Int) := by omega
      have hl8' : (k : Int) < 100 := by omega
      go_upto_region 10 with (refine wpList_load_mid rfl 35 _ rfl x (off + k * 6) rfl _ _ (unhide HQ) Try.underlying35 rfl s6 ?_)
      clear hst hsz
      have OB := hide (heap_new wr (.cells (opV q) 35))
      have HV := hide ((unhide HA).alloc (.cells (opV q) 35))
      have RV : Hid (RowL (wr.alloc (.cells (opV q) 35)) g 64 fun i => (A.l i).has) := (unhide RA).alloc _
      have hgL : g ≠ wr.heap.size := by have := (unhide RA).lt; omega
      obtain ⟨L, hL⟩ : ∃ L, L = wr.heap.size := ⟨_, rfl⟩
      rw [← hL] at OB HV hgL ⊢
      clear hL HA HQ RA
      generalize wr.alloc (.cells (opV q) 35) = V at *
      have OI := hide (opIn_block (unhide OB))
      have g0 := (unhide OI).f0
      have HOK : Hid (A.ok 1000) := ok_mono inv.ok (by omega)
      obtain ⟨kd, hkd⟩ : ∃ kd, kd = kindN q.kind 4 := ⟨_, rfl⟩
      have hkd5 : kd < 4 := by rw [hkd]; exact kindN_lt _ _ (by decide)
      have CK : Hid (Calls Try.prog 12 #[.int .i64 q.kind, .int .i64 4] V fun e w' => e = .returned (.int .i64 (kd : Int)) ∧ w' = V) := by
        rw [hkd]; exact kind_any q.kind (unhide QOK).1 4 (by decide) (by decide) _
      clear hkd
      rcases (show kd = 0 ∨ kd = 1 ∨ kd = 2 ∨ kd = 3 by omega) with rfl | rfl | rfl | rfl
      all_goals
        go_wp2_with fail
        refine (unhide CK).mono ?_
        rintro e V ⟨rfl, rfl⟩
        clear g0
      · have g2 := (unhide OI).f2
        have g3 := (unhide OI).f3
        have g4 := (unhide OI).f4
        by_cases hv : A.isZ q.line ∧ is8 q.word
        · obtain ⟨⟨z1, z2⟩, y1, y2⟩ := hv
          rw [inv.n] at z2
          obtain ⟨kz, hkz⟩ : ∃ kz : Nat, q.line = (kz : Int) := ⟨q.line.toNat, by omega⟩
          obtain ⟨qz, hqz⟩ : ∃ qz : Nat, q.word = (qz : Int) := ⟨q.word.toNat, by omega⟩
          rw [hkz] at g2 z1 z2
          rw [hqz] at g3 y1 y2
          have EKZ := hide hkz
          have EQZ := hide hqz
          clear hkz hqz
          go_wp2_with fail
          refine ((unhide HV).store (unhide HOK) _ _ kz qz rfl rfl (by rw [inv.n]; omega) (by omega) q.v).mono ?_
          rintro e w5 ⟨rfl, h5, hs5⟩
          rw [inv.err]
          obtain ⟨inv1, hh1⟩ := inv.store kz qz q.v (by omega) (unhide QOK).2.2.2.2.1
          have H5 := hide h5
          have OI5 := hide (opIn_block (p := q) (T := 35) ((hs5 L (Or.inr rfl)).trans (unhide OB)))
          have R5 : Hid (RowL w5 g 64 fun i => (A.l i).has) := (unhide RV).same (hs5 g (Or.inl rfl))
          obtain ⟨A1, hA1⟩ : ∃ A1, A1 = A.store kz qz q.v := ⟨_, rfl⟩
          rw [← hA1] at inv1 hh1 H5
          have HH1 := hide hh1
          clear h5 hs5 hA1 hh1 g2 g3 g4 HV RV OI CK OB
          have g2 := (unhide OI5).f2
          have g3 := (unhide OI5).f3
          have g4 := (unhide OI5).f4
          rw [unhide EKZ] at g2
          rw [unhide EQZ] at g3
          have d1 : w5.cell? ⟨g, kz * 8 + qz, none⟩ = some (.int .u64 ((A.l ((kz * 8 + qz) / 8)).has ((kz * 8 + qz) % 8))) := Blk.cell (unhide R5) (kz * 8 + qz) (by omega)
          have d2 : w5.frozen? ⟨g, kz * 8 + qz, none⟩ = false := Blk.free (unhide R5) _
          generalize (A.l ((kz * 8 + qz) / 8)).has ((kz * 8 + qz) % 8) = old at *
          go_wp2_with fail
          go_region
          have H1 : Hid (Has W ((w5.setCell ⟨g, kz * 8 + qz, none⟩ (.int .u64 q.v)).drew) (fun k => k = g ∨ k = L) p A1) := ((unhide H5).own (Or.inl rfl) (unhide HWG) (Keeps.setCell (F := (· = g)) (p := ⟨g, kz * 8 + qz, none⟩) (Keeps.refl _ _) rfl _)).drew
          have R1 : Hid (RowL ((w5.setCell ⟨g, kz * 8 + qz, none⟩ (.int .u64 q.v)).drew) g 64 fun i => (A1.l i).has) := row_congr (RowL.same (row_set (unhide R5) kz qz q.v (by omega)) rfl) (fun j => (unhide HH1 j).symm)
          generalize (w5.setCell ⟨g, kz * 8 + qz, none⟩ (.int .u64 q.v)).drew = Y at *
          clear d1 d2 g2 g3 g4 H5 R5 OI5
          go_wp2_with fail
          go_roundw
          case rel => exact ⟨k + 1, by omega, by omega, by go_num, A1, (unhide H1).less (fun _ h => Or.inl h), inv1, unhide R1⟩
          case measure => simp [intOf]; omega
        · go_wp2_with fail
          refine ((unhide HV).store_bad q.line q.word q.v hv).mono ?_
          rintro e w5 ⟨rfl, h5, hs5⟩
          have inv1 := inv.more
          obtain ⟨A1, hA1⟩ : ∃ A1, A1 = A := ⟨_, rfl⟩
          rw [← hA1] at inv1
          have H1 : Hid (Has W w5 (fun k => k = g ∨ k = L) p A1) := by rw [hA1]; exact h5
          have R1 : Hid (RowL w5 g 64 fun i => (A1.l i).has) := by rw [hA1]; exact (unhide RV).same (hs5 g (Or.inl rfl))
          clear h5 hs5 hA1 g2 g3 g4 HV RV OI CK OB hv
          go_wp2_with fail
          go_roundw
          case rel => exact ⟨k + 1, by omega, by omega, by go_num, A1, (unhide H1).less (fun _ h => Or.inl h), inv1, unhide R1⟩
          case measure => simp [intOf]; omega
      · have g1 := (unhide OI).f1
        have g2 := (unhide OI).f2
        go_wp2_with fail
        refine ((unhide HV).flushZ (unhide HOK) q.core q.line).mono ?_
        rintro e w' ⟨rfl, h1, hs1⟩
        obtain ⟨inv1, hh1⟩ := inv.flushZ q.core q.line
        obtain ⟨A1, hA1⟩ : ∃ A1, A1 = A.flushZ q.core q.line := ⟨_, rfl⟩
        rw [← hA1] at inv1 hh1 h1
        have H1 := hide h1
        have R1 : Hid (RowL w' g 64 fun i => (A1.l i).has) := row_congr ((unhide RV).same (hs1 g (Or.inl rfl))) (fun j => (hh1 j).symm)
        clear h1 hs1 hh1 hA1 g1 g2 HV RV OI CK OB
        go_wp2_with fail
        go_roundw
        case rel => exact ⟨k + 1, by omega, by omega, by go_num, A1, (unhide H1).less (fun _ h => Or.inl h), inv1, unhide R1⟩
        case measure => simp [intOf]; omega
      · have g1 := (unhide OI).f1
        go_wp2_with fail
        refine ((unhide HV).fenceZ (unhide HOK) q.core).mono ?_
        rintro e w' ⟨rfl, h1, hs1⟩
        obtain ⟨inv1, hh1⟩ := inv.fenceZ q.core
        obtain ⟨A1, hA1⟩ : ∃ A1, A1 = A.fenceZ q.core := ⟨_, rfl⟩
        rw [← hA1] at inv1 hh1 h1
        have H1 := hide h1
        have R1 : Hid (RowL w' g 64 fun i => (A1.l i).has) := row_congr ((unhide RV).same (hs1 g (Or.inl rfl))) (fun j => (hh1 j).symm)
        clear h1 hs1 hh1 hA1 g1 HV RV OI CK OB
        go_wp2_with fail
        go_roundw
        case rel => exact ⟨k + 1, by omega, by omega, by go_num, A1, (unhide H1).less (fun _ h => Or.inl h), inv1, unhide R1⟩
        case measure => simp [intOf]; omega
      · have g2 := (unhide OI).f2
        have g3 := (unhide OI).f3
        go_wp2_with fail
        refine ((unhide HV).evictZ (unhide HOK) q.line q.word).mono ?_
        rintro e w' ⟨rfl, h1, hs1⟩
        obtain ⟨inv1, hh1⟩ := inv.evictZ q.line q.word
        obtain ⟨A1, hA1⟩ : ∃ A1, A1 = A.evictZ q.line q.word := ⟨_, rfl⟩
        rw [← hA1] at inv1 hh1 h1
        have H1 := hide h1
        have R1 : Hid (RowL w' g 64 fun i => (A1.l i).has) := row_congr ((unhide RV).same (hs1 g (Or.inl rfl))) (fun j => (hh1 j).symm)
        clear h1 hs1 hh1 hA1 g2 g3 HV RV OI CK OB
        go_wp2_with fail
        go_roundw
        case rel => exact ⟨k + 1, by omega, by omega, by go_num, A1, (unhide H1).less (fun _ h => Or.inl h), inv1, unhide R1⟩
        case measure => simp [intOf]; omega
    · by_cases h1 : (k : Int) < (n : Int)
      · have h2 : ¬ ((k : Int) < 100) := by omega
        have HON := hide inv.on
        have HAN := hide inv.n
        clear inv
        go_wp2_with fail
        go_loopw [9] (fun i wz => ∃ m : Nat, m ≤ 64 ∧ i = .int .i64 m ∧ Has W wz (fun k => k = g) p A ∧ RowL wz g 64 fun i => (A.l i).has) (fun i _ => 64 - (intOf i).toNat)
        case atStart => exact ⟨0, by omega, rfl, unhide HA, unhide RA⟩
        case round =>
          clear HA RA
          obtain ⟨m, hm, rfl, hz, hrz⟩ := hrel
          rename_i wz
          have HZ := hide hz
          have RZ := hide hrz
          clear hz hrz
          by_cases hlm : m < 64
          · have hlm' : (m : Int) < 64 := by omega
            go_wp2_with fail
            refine ((unhide HZ).load m m rfl (by rw [unhide HAN]; exact hlm) (unhide HON) (by rw [unhide HAN]; decide)).mono ?_
            rintro e w8 ⟨rfl, h8, hs8⟩
            have H8 := hide h8
            have R8 : Hid (RowL w8 g 64 fun i => (A.l i).has) := (unhide RZ).same (hs8 g rfl)
            clear h8 hs8 HZ RZ
            obtain ⟨f, hf⟩ : ∃ f, f = (A.l m).has := ⟨_, rfl⟩
            have RM : Hid (w8.rangeAt g (m * 8) (lnV f).toList) := by rw [hf]; exact (unhide R8).at m hlm
            rw [← hf]
            clear hf
            have hst := store_line f
            have hsz := lnV_size f
            go_upto_region 24 with fail
            clear hst hsz
            have HL := hide (heap_new w8 (.cells (lnV f) 50))
            have H9 := hide ((unhide H8).alloc (.cells (lnV f) 50))
            have R9 : Hid (RowL (w8.alloc (.cells (lnV f) 50)) g 64 fun i => (A.l i).has) := (unhide R8).alloc _
            have RM9 : Hid ((w8.alloc (.cells (lnV f) 50)).rangeAt g (m * 8) (lnV f).toList) := World.rangeAt_alloc (unhide RM) _
            obtain ⟨M, hM⟩ : ∃ M, M = w8.heap.size := ⟨_, rfl⟩
            rw [← hM] at HL ⊢
            have H10 : Hid (Has W (w8.alloc (.cells (lnV f) 50)) (fun k => k = g) p A) := (unhide H9).less (fun _ h => Or.inl h)
            clear hM H8 H9 R8 RM
            generalize w8.alloc (.cells (lnV f) 50) = Y at *
            have RL : Hid (Y.rangeAt M 0 (lnV f).toList) := Blk.range (N := 8) (T := 50) (f := fun j => .int .u64 (f j)) (unhide HL) 0 8 (by omega) (fun j => .int .u64 (f j)) (fun j hj => by rw [Nat.zero_add])
            have s8 : (Try.prog.info? 50).map (·.size) = some (lnV f).toList.length := by rw [Array.length_toList, lnV_size]; exact lsize
            refine wp_region_noPanic ?_
            refine wp_region_held_drew (S := fun w' => w'.rangeAt g (m * 8) (lnV f).toList ∧ w'.rangeAt M 0 (lnV f).toList) (by kernel_rfl) ⟨unhide RM9, unhide RL⟩ (fun hHeld => ?_)
            refine take_at 0 93 (v := ?_) rfl rfl (by kernel_rfl) (by kernel_rfl) (by kernel_rfl) (Or.inl ⟨by rfl, ?_⟩) hHeld ?_
            rotate_left
            · intro w hSw; go_simp; with_reducible rfl
            simp only [Act.put, List.setIfInBounds_toArray, List.set_cons_zero, List.set_cons_succ]
            refine take_at 1 94 (v := ?_) rfl rfl (by kernel_rfl) (by kernel_rfl) (by kernel_rfl) (Or.inl ⟨by rfl, ?_⟩) hHeld ?_
            rotate_left
            · intro w hSw; go_simp; with_reducible rfl
            simp only [Act.put, List.setIfInBounds_toArray, List.set_cons_zero, List.set_cons_succ]
            refine take_at 2 95 (v := ?_) rfl rfl (by kernel_rfl) (by kernel_rfl) (by kernel_rfl) (Or.inl ⟨by rfl, ?_⟩) hHeld ?_
            rotate_left
            · intro w hSw; go_simp; with_reducible rfl
            simp only [Act.put, List.setIfInBounds_toArray, List.set_cons_zero, List.set_cons_succ]
            refine take_at 3 96 rfl rfl (by kernel_rfl) (by kernel_rfl) (by kernel_rfl) (yieldsIf_load_mid (by rfl) _ _ rfl M 0 rfl _ _ (fun w h => h.2) Try.underlying50 rfl s8) hHeld ?_
            simp only [Act.put, List.setIfInBounds_toArray, List.set_cons_zero, List.set_cons_succ]
            refine take_at 4 97 (v := ?_) rfl rfl (by kernel_rfl) (by kernel_rfl) (by kernel_rfl) (Or.inl ⟨by rfl, ?_⟩) hHeld ?_
            rotate_left
            · intro w hSw; go_simp; with_reducible rfl
            simp only [Act.put, List.setIfInBounds_toArray, List.set_cons_zero, List.set_cons_succ]
            refine take_at 5 98 (v := ?_) rfl rfl (by kernel_rfl) (by kernel_rfl) (by kernel_rfl) (Or.inl ⟨by rfl, ?_⟩) hHeld ?_
            rotate_left
            · intro w hSw; go_simp; with_reducible rfl
            simp only [Act.put, List.setIfInBounds_toArray, List.set_cons_zero, List.set_cons_succ]
            refine take_at 6 99 (v := ?_) rfl rfl (by kernel_rfl) (by kernel_rfl) (by kernel_rfl) (Or.inl ⟨by rfl, ?_⟩) hHeld ?_
            rotate_left
            · intro w hSw; go_simp; with_reducible rfl
            simp only [Act.put, List.setIfInBounds_toArray, List.set_cons_zero, List.set_cons_succ]
            refine take_at 7 100 rfl rfl (by kernel_rfl) (by kernel_rfl) (by kernel_rfl) (yieldsIf_load_mid (by rfl) _ _ rfl g (m * 8) rfl _ _ (fun w h => h.1) Try.underlying50 rfl s8) hHeld ?_
            simp only [Act.put, List.setIfInBounds_toArray, List.set_cons_zero, List.set_cons_succ]
            refine take_at 8 101 rfl rfl (by kernel_rfl) (by kernel_rfl) (by kernel_rfl) (yieldsIf_neqL (by rfl) (.tmp 96) (.tmp 100) rfl f f rfl rfl) hHeld ?_
            simp only [Act.put, List.setIfInBounds_toArray, List.set_cons_zero, List.set_cons_succ]
            rw [eqL_refl]
            refine take_at 9 102 (v := ?_) rfl rfl (by kernel_rfl) (by kernel_rfl) (by kernel_rfl) (Or.inl ⟨by rfl, ?_⟩) hHeld ?_
            rotate_left
            · intro w hSw; go_simp; with_reducible rfl
            simp only [Act.put, List.setIfInBounds_toArray, List.set_cons_zero, List.set_cons_succ]
            refine wpAnyH_done (by kernel_rfl) ?_ _
            refine NoPanic.normal ?_
            clear hHeld RL RM9 HL
            go_wp2_with fail
            go_roundw
            case rel => exact ⟨m + 1, by omega, by go_num, (unhide H10).drew, (unhide R9).drew⟩
            case measure => simp [intOf]; omega
          · have hlm' : ¬ ((m : Int) < 64) := by omega
            go_wp2_with fail
            go_ret
            exact ⟨rfl, (unhide HZ).keeps.below (Nat.le_refl _) (fun _ h => h.elim)⟩
      · skip
        have HON := hide inv.on
        have HAN := hide inv.n
        clear inv
        go_wp2_with fail
        go_loopw [9] (fun i wz => ∃ m : Nat, m ≤ 64 ∧ i = .int .i64 m ∧ Has W wz (fun k => k = g) p A ∧ RowL wz g 64 fun i => (A.l i).has) (fun i _ => 64 - (intOf i).toNat)
        case atStart => exact ⟨0, by omega, rfl, unhide HA, unhide RA⟩
        case round =>
          clear HA RA
          obtain ⟨m, hm, rfl, hz, hrz⟩ := hrel
          rename_i wz
          have HZ := hide hz
          have RZ := hide hrz
          clear hz hrz
          by_cases hlm : m < 64
          · have hlm' : (m : Int) < 64 := by omega
            go_wp2_with fail
            refine ((unhide HZ).load m m rfl (by rw [unhide HAN]; exact hlm) (unhide HON) (by rw [unhide HAN]; decide)).mono ?_
            rintro e w8 ⟨rfl, h8, hs8⟩
            have H8 := hide h8
            have R8 : Hid (RowL w8 g 64 fun i => (A.l i).has) := (unhide RZ).same (hs8 g rfl)
            clear h8 hs8 HZ RZ
            obtain ⟨f, hf⟩ : ∃ f, f = (A.l m).has := ⟨_, rfl⟩
            have RM : Hid (w8.rangeAt g (m * 8) (lnV f).toList) := by rw [hf]; exact (unhide R8).at m hlm
            rw [← hf]
            clear hf
            have hst := store_line f
            have hsz := lnV_size f
            go_upto_region 24 with fail
            clear hst hsz
            have HL := hide (heap_new w8 (.cells (lnV f) 50))
            have H9 := hide ((unhide H8).alloc (.cells (lnV f) 50))
            have R9 : Hid (RowL (w8.alloc (.cells (lnV f) 50)) g 64 fun i => (A.l i).has) := (unhide R8).alloc _
            have RM9 : Hid ((w8.alloc (.cells (lnV f) 50)).rangeAt g (m * 8) (lnV f).toList) := World.rangeAt_alloc (unhide RM) _
            obtain ⟨M, hM⟩ : ∃ M, M = w8.heap.size := ⟨_, rfl⟩
            rw [← hM] at HL ⊢
            have H10 : Hid (Has W (w8.alloc (.cells (lnV f) 50)) (fun k => k = g) p A) := (unhide H9).less (fun _ h => Or.inl h)
            clear hM H8 H9 R8 RM
            generalize w8.alloc (.cells (lnV f) 50) = Y at *
            have RL : Hid (Y.rangeAt M 0 (lnV f).toList) := Blk.range (N := 8) (T := 50) (f := fun j => .int .u64 (f j)) (unhide HL) 0 8 (by omega) (fun j => .int .u64 (f j)) (fun j hj => by rw [Nat.zero_add])
            have s8 : (Try.prog.info? 50).map (·.size) = some (lnV f).toList.length := by rw [Array.length_toList, lnV_size]; exact lsize
            refine wp_region_noPanic ?_
            refine wp_region_held_drew (S := fun w' => w'.rangeAt g (m * 8) (lnV f).toList ∧ w'.rangeAt M 0 (lnV f).toList) (by kernel_rfl) ⟨unhide RM9, unhide RL⟩ (fun hHeld => ?_)
            refine take_at 0 93 (v := ?_) rfl rfl (by kernel_rfl) (by kernel_rfl) (by kernel_rfl) (Or.inl ⟨by rfl, ?_⟩) hHeld ?_
            rotate_left
            · intro w hSw; go_simp; with_reducible rfl
            simp only [Act.put, List.setIfInBounds_toArray, List.set_cons_zero, List.set_cons_succ]
            refine take_at 1 94 (v := ?_) rfl rfl (by kernel_rfl) (by kernel_rfl) (by kernel_rfl) (Or.inl ⟨by rfl, ?_⟩) hHeld ?_
            rotate_left
            · intro w hSw; go_simp; with_reducible rfl
            simp only [Act.put, List.setIfInBounds_toArray, List.set_cons_zero, List.set_cons_succ]
            refine take_at 2 95 (v := ?_) rfl rfl (by kernel_rfl) (by kernel_rfl) (by kernel_rfl) (Or.inl ⟨by rfl, ?_⟩) hHeld ?_
            rotate_left
            · intro w hSw; go_simp; with_reducible rfl
            simp only [Act.put, List.setIfInBounds_toArray, List.set_cons_zero, List.set_cons_succ]
            refine take_at 3 96 rfl rfl (by kernel_rfl) (by kernel_rfl) (by kernel_rfl) (yieldsIf_load_mid (by rfl) _ _ rfl M 0 rfl _ _ (fun w h => h.2) Try.underlying50 rfl s8) hHeld ?_
            simp only [Act.put, List.setIfInBounds_toArray, List.set_cons_zero, List.set_cons_succ]
            refine take_at 4 97 (v := ?_) rfl rfl (by kernel_rfl) (by kernel_rfl) (by kernel_rfl) (Or.inl ⟨by rfl, ?_⟩) hHeld ?_
            rotate_left
            · intro w hSw; go_simp; with_reducible rfl
            simp only [Act.put, List.setIfInBounds_toArray, List.set_cons_zero, List.set_cons_succ]
            refine take_at 5 98 (v := ?_) rfl rfl (by kernel_rfl) (by kernel_rfl) (by kernel_rfl) (Or.inl ⟨by rfl, ?_⟩) hHeld ?_
            rotate_left
            · intro w hSw; go_simp; with_reducible rfl
            simp only [Act.put, List.setIfInBounds_toArray, List.set_cons_zero, List.set_cons_succ]
            refine take_at 6 99 (v := ?_) rfl rfl (by kernel_rfl) (by kernel_rfl) (by kernel_rfl) (Or.inl ⟨by rfl, ?_⟩) hHeld ?_
            rotate_left
            · intro w hSw; go_simp; with_reducible rfl
            simp only [Act.put, List.setIfInBounds_toArray, List.set_cons_zero, List.set_cons_succ]
            refine take_at 7 100 rfl rfl (by kernel_rfl) (by kernel_rfl) (by kernel_rfl) (yieldsIf_load_mid (by rfl) _ _ rfl g (m * 8) rfl _ _ (fun w h => h.1) Try.underlying50 rfl s8) hHeld ?_
            simp only [Act.put, List.setIfInBounds_toArray, List.set_cons_zero, List.set_cons_succ]
            refine take_at 8 101 rfl rfl (by kernel_rfl) (by kernel_rfl) (by kernel_rfl) (yieldsIf_neqL (by rfl) (.tmp 96) (.tmp 100) rfl f f rfl rfl) hHeld ?_
            simp only [Act.put, List.setIfInBounds_toArray, List.set_cons_zero, List.set_cons_succ]
            rw [eqL_refl]
            refine take_at 9 102 (v := ?_) rfl rfl (by kernel_rfl) (by kernel_rfl) (by kernel_rfl) (Or.inl ⟨by rfl, ?_⟩) hHeld ?_
            rotate_left
            · intro w hSw; go_simp; with_reducible rfl
            simp only [Act.put, List.setIfInBounds_toArray, List.set_cons_zero, List.set_cons_succ]
            refine wpAnyH_done (by kernel_rfl) ?_ _
            refine NoPanic.normal ?_
            clear hHeld RL RM9 HL
            go_wp2_with fail
            go_roundw
            case rel => exact ⟨m + 1, by omega, by go_num, (unhide H10).drew, (unhide R9).drew⟩
            case measure => simp [intOf]; omega
          · have hlm' : ¬ ((m : Int) < 64) := by omega
            go_wp2_with fail
            go_ret
            exact ⟨rfl, (unhide HZ).keeps.below (Nat.le_refl _) (fun _ h => h.elim)⟩

set_option maxRecDepth 100000 in
theorem lifted (os : Os) (started : os.Started) (H : Type) (enc : TypeId × Value → H) :
    ReturnsInHanded {} Try.checked os 6 .any (Rows.nvmLastSpec.pre6 enc Try.prog Try.f6 Rows.nvmLastRow.domain false) (Rows.nvmLastSpec.post enc Try.prog Try.f6 false true false false) := by
  refine law_frame (C := Try.checked) (ts := [22]) (tb := 4) (by kernel_rfl) started (by kernel_rfl) Try.func6 Try.params6 (by kernel_rfl) Try.underlying4 (by kernel_rfl) (by kernel_rfl) rfl ?_
    (ChangeSpec.witness6 (enc := enc) (C := Try.checked) false ⟨#[], #[.slice none 0 0], []⟩ 8 (by kernel_rfl) (by kernel_rfl) (by kernel_rfl) (by kernel_rfl)) ?_
  · intro ds hd
    match ds, hd with
    | [d0], _ => rfl
  · intro W base args ds p hval hA
    obtain ⟨v0, vs0, d0, ds0, p0, q0, hargs, rfl, rfl, h0, r0⟩ := trodAll_cons hA
    obtain ⟨rfl, rfl, rfl⟩ := trodAll_nil r0
    obtain rfl : args = #[v0] := by cases args; simp_all
    obtain ⟨a, n, cap, o, rfl, hO⟩ := open_ops (hval 0 22 v0 rfl rfl) h0
    exact walk W a n cap o hO

theorem over : Rows.nvmLastRow.holds Try.pinned (OpenSpec.ofChange Rows.nvmLastSpec) :=
  OpenClaim.holds_of_wide 6 Try.f6 rfl rfl rfl rfl rfl rfl rfl ⟨rfl, rfl, rfl, rfl, rfl⟩ rfl rfl rfl rfl rfl (by kernel_rfl) Try.func6 (by kernel_rfl)
    (of_decide_eq_true (by kernel_rfl)) (by unfold Func.isWrapper; first | (rw [if_pos (by decide +kernel)]; kernel_rfl) | (rw [if_neg (by decide +kernel)]; exact ⟨rfl, rfl⟩))
    (fun os started H enc _ => lifted os started H enc)

end Go.Proofs.Ytkbafneoffcecaa.nvmLast
namespace Go.Proofs.Ytkbafneoffcecaa
theorem nvmLast_holds : Rows.NvmLastSaid := nvmLast.over
end Go.Proofs.Ytkbafneoffcecaa
