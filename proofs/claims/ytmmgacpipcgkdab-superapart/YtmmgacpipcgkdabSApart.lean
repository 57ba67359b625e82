
/-
  For every two superblocks, every place and every number, SuperApart returns true and leaves its arguments as they were: two superblocks have the same line only if they are the same, and neither is read from a line of which bits of one byte are turned. No condition.
-/
import Derived.Test.YtmmgacpipcgkdabSTwos
import Derived.Test.YtmmgacpipcgkdabSKind
import Derived.Test.YtmmgacpipcgkdabCTurnMath
import Derived.Test.YtmmgacpipcgkdabRows
import Derived.Deep.RegionHeld3
import Derived.Deep.MidRow
import Derived.Deep.Cut
namespace Go.Proofs.Ytmmgacpipcgkdab.superApart
open Go.ChangeShapes Go.WideShapes Go.ChangeAt Go.RowKit Go.Joins
set_option linter.unusedVariables false
set_option linter.unusedSimpArgs false

/-- A line of a superblock of which bits of one byte are turned is none's. -/
theorem none_turned (s : List Int) (hm : mayS s = true) (p : Nat) (hp : p < 64) (v : Int) (hv : 0 ≤ v ∧ v ≤ 255) (hne : v ≠ (bytesOf (lineS s)).getD p 0) : isS (lineOf ((bytesOf (lineS s)).set p v)) = false := by
  have hg : goodB (lineOf ((bytesOf (lineS s)).set p v)) = false := good_turned (rawS s) rfl (wfs_u64 (sealOf_wf (rawS s) (rawS_wf s hm))) p hp v hv hne
  cases h : isS (lineOf ((bytesOf (lineS s)).set p v))
  · rfl
  · have h2 := ((isS_iff _).1 h).2
    rw [← h2, lineS_good] at hg
    exact hg
theorem same_line (s t : List Int) (hs : s.length = 4) (ht : t.length = 4) (hm : mayS s = true) (hn : mayS t = true) : decide (lineS s = lineS t) = decide (s = t) := by
  by_cases h : s = t
  · simp [h]
  · have : lineS s ≠ lineS t := fun e => h (lineS_inj s t hs ht hm hn e)
    simp [h, this]

/-- The walk halts at a store. -/
theorem wpList_haltS {P : Program} {ops : Array Oper} {rest : List Oper} {op : Oper} {a : Act} {w : World} {Q : Exit → Act → World → Prop} (ty : TypeId) (x y : Operand) (ho : op.op = .store ty x y) (h : Hid (wpList P ops Q (op :: rest) a w)) : wpList P ops Q (op :: rest) a w := h
theorem own_turn {W w : World} {g p : Nat} {v : Value} {o o' : Obj} {L : List (Nat × Obj)} (h : Own W w ((g, o) :: L)) (hW : W.heap.size ≤ g) (hne : ∀ q ∈ L, q.1 < g) (hg : (w.setCell ⟨g, p, none⟩ v).heap[g]? = some o') : Own W (w.setCell ⟨g, p, none⟩ v) ((g, o') :: L) :=
  ⟨h.below.setCell (p := ⟨g, p, none⟩) hW _, fun q hq => by
    rcases List.mem_cons.1 hq with rfl | hq
    · exact hg
    · have := hne q hq
      exact (heap_setCell_other w ⟨g, p, none⟩ q.1 _ (by simp; omega)).trans (h.at _ _ (List.mem_cons_of_mem _ hq))⟩
theorem wrap_small (kb : Nat) (h : kb < 255) : IntKind.u8.wrap (IntKind.i64.wrap (1 + (kb : Int))) = ((1 + kb : Nat) : Int) := by
  simp [IntKind.wrap, IntKind.signed, IntKind.bits]; omega
set_option maxHeartbeats 4000000 in
set_option maxRecDepth 100000 in
theorem walk (W : World) (s t : List Int) (x y : Int) (hst : IsSuper s ∧ IsSuper t) (wx : (Lit.int .i64 x).wf = true) (wy : (Lit.int .i64 y).wf = true) :
    Calls Try.prog 3 #[.agg (iv .i64 (s ++ t)), .int .i64 x, .int .i64 y] W fun e W' => e = .returned (.bool true) ∧ Below W.heap.size W W' := by
  obtain ⟨⟨hs, -⟩, ⟨ht, -⟩⟩ := hst
  have HS := hide hs
  have HT := hide ht
  have ss := list4 hs
  have st := list4 ht
  have C1 := hide (line_any s hs)
  have C2 := hide (line_any t ht)
  have nX := iv_new .u64 (lineV s) 8 (lineV_len _) 28
  have zX : (iv .u64 (lineV s)).size = 8 := by rw [iv_size, lineV_len]
  have nY := iv_new .u64 (lineV t) 8 (lineV_len _) 28
  have zY : (iv .u64 (lineV t)).size = 8 := by rw [iv_size, lineV_len]
  have CK1 := hide (skind_any x (inI_wf wx) 64 (by decide) (by decide))
  have CK2 := hide (skind_any y (inI_wf wy) 255 (by decide) (by decide))
  clear hs ht wx wy
  cases hm : mayS s with
  | false =>
    rw [show lineE s = 1 by simp [lineE, hm]] at C1
    generalize lineE t = E2 at *
    clear hm CK1 CK2
    generalize iv .u64 (lineV s) = X at *
    generalize iv .u64 (lineV t) = Y at *
    have O0 := hide ((Own.start W).alloc (.cells (iv .i64 (s ++ t)) 24))
    go_enter Try.func3, Try.ntmps3
    go_wp2_with fail
    refine (shown_any _).mono ?_
    rintro e w1 ⟨rfl, hb⟩
    have O1 := hide ((unhide O0).call hb)
    clear hb O0
    have KR := hide (two_first ((unhide O1).at W.heap.size (.cells (iv .i64 (s ++ t)) 24) (by simp)))
    go_wp2_with (refine wpList_load_mid rfl 23 _ rfl W.heap.size 0 rfl _ _ (unhide KR) Try.underlying23 rfl ss ?_)
    refine (unhide C1 _).mono ?_
    rintro e w2 ⟨rfl, hb⟩
    have O2 := hide (((unhide O1).call hb).alloc (.cells X 28))
    clear hb O1 KR
    have KR := hide (two_second (unhide HS) ((unhide O2).at W.heap.size (.cells (iv .i64 (s ++ t)) 24) (by simp)))
    go_wp2_with (refine wpList_load_mid rfl 23 _ rfl W.heap.size 4 rfl _ _ (unhide KR) Try.underlying23 rfl st ?_)
    refine (unhide C2 _).mono ?_
    rintro e w3 ⟨rfl, hb⟩
    have O3 := hide (((unhide O2).call hb).alloc (.cells Y 28))
    clear hb O2 KR
    go_wp2_with fail
    go_ret
    exact ⟨rfl, (unhide O3).below⟩
  | true =>
    cases hn : mayS t with
    | false =>
      rw [show lineE s = 0 by simp [lineE, hm]] at C1
      rw [show lineE t = 1 by simp [lineE, hn]] at C2
      clear hn
      clear hm CK1 CK2
      generalize iv .u64 (lineV s) = X at *
      generalize iv .u64 (lineV t) = Y at *
      have O0 := hide ((Own.start W).alloc (.cells (iv .i64 (s ++ t)) 24))
      go_enter Try.func3, Try.ntmps3
      go_wp2_with fail
      refine (shown_any _).mono ?_
      rintro e w1 ⟨rfl, hb⟩
      have O1 := hide ((unhide O0).call hb)
      clear hb O0
      have KR := hide (two_first ((unhide O1).at W.heap.size (.cells (iv .i64 (s ++ t)) 24) (by simp)))
      go_wp2_with (refine wpList_load_mid rfl 23 _ rfl W.heap.size 0 rfl _ _ (unhide KR) Try.underlying23 rfl ss ?_)
      refine (unhide C1 _).mono ?_
      rintro e w2 ⟨rfl, hb⟩
      have O2 := hide (((unhide O1).call hb).alloc (.cells X 28))
      clear hb O1 KR
      have KR := hide (two_second (unhide HS) ((unhide O2).at W.heap.size (.cells (iv .i64 (s ++ t)) 24) (by simp)))
      go_wp2_with (refine wpList_load_mid rfl 23 _ rfl W.heap.size 4 rfl _ _ (unhide KR) Try.underlying23 rfl st ?_)
      refine (unhide C2 _).mono ?_
      rintro e w3 ⟨rfl, hb⟩
      have O3 := hide (((unhide O2).call hb).alloc (.cells Y 28))
      clear hb O2 KR
      go_wp2_with fail
      go_ret
      exact ⟨rfl, (unhide O3).below⟩
    | true =>
      rw [show lineE s = 0 by simp [lineE, hm]] at C1
      rw [show lineE t = 0 by simp [lineE, hn]] at C2
      have sX := infoL (lineV_len s)
      have sY := infoL (lineV_len t)
      have EX : Hid (∀ w, (Op.equalIn 10000 28 (.agg (iv .u64 (lineV s))) (.agg (iv .u64 (lineV t)))).run Try.prog w = .ok (decide (s = t)) w) := fun w => by rw [equal_line _ _ (lineV_len s) (lineV_len t), lineV_may s hm, lineV_may t hn, same_line s t (unhide HS) (unhide HT) hm hn]
      have ES : Hid (∀ w, (Op.equalIn 10000 23 (.agg (iv .i64 s)) (.agg (iv .i64 t))).run Try.prog w = .ok (decide (s = t)) w) := fun w => equal_super _ _ (unhide HS) (unhide HT) w
      have CB := hide (bytes_any (lineV s) (lineV_len s) (lineV_wf s))
      have hp64 := kindN_lt x 64 (by decide)
      have hb255 := kindN_lt y 255 (by decide)
      generalize kindN x 64 = p at *
      generalize kindN y 255 = kb at *
      have HTn : Hid (∀ v, 0 ≤ v ∧ v ≤ 255 → v ≠ (bytesOf (lineV s)).getD p 0 → isS (lineOf ((bytesOf (lineV s)).set p v)) = false) := fun v h1 h2 => by rw [lineV_may s hm] at h2 ⊢; exact none_turned s hm p hp64 v h1 h2
      obtain ⟨bs, hbs⟩ : ∃ bs, bs = bytesOf (lineV s) := ⟨_, rfl⟩
      have BL : Hid (bs.length = 64) := by show _ = _; rw [hbs, bytesOf_len]
      have BB : Hid (Bytes8 bs) := by show Bytes8 bs; rw [hbs]; exact bytesOf_b8 _
      rw [← hbs] at CB HTn
      clear hm hn hbs
      generalize iv .u64 (lineV s) = X at *
      generalize iv .u64 (lineV t) = Y at *
      have O0 := hide ((Own.start W).alloc (.cells (iv .i64 (s ++ t)) 24))
      go_enter Try.func3, Try.ntmps3
      go_wp2_with fail
      refine (shown_any _).mono ?_
      rintro e w1 ⟨rfl, hb⟩
      have O1 := hide ((unhide O0).call hb)
      clear hb O0
      have KR := hide (two_first ((unhide O1).at W.heap.size (.cells (iv .i64 (s ++ t)) 24) (by simp)))
      go_wp2_with (refine wpList_load_mid rfl 23 _ rfl W.heap.size 0 rfl _ _ (unhide KR) Try.underlying23 rfl ss ?_)
      refine (unhide C1 _).mono ?_
      rintro e w2 ⟨rfl, hb⟩
      have O2 := hide (((unhide O1).call hb).alloc (.cells X 28))
      clear hb O1 KR
      have KR := hide (two_second (unhide HS) ((unhide O2).at W.heap.size (.cells (iv .i64 (s ++ t)) 24) (by simp)))
      go_wp2_with (refine wpList_load_mid rfl 23 _ rfl W.heap.size 4 rfl _ _ (unhide KR) Try.underlying23 rfl st ?_)
      refine (unhide C2 _).mono ?_
      rintro e w3 ⟨rfl, hb⟩
      have O3 := hide (((unhide O2).call hb).alloc (.cells Y 28))
      clear hb O2 KR
      have KX := hide ((unhide O3).at w2.heap.size (.cells X 28) (by simp))
      go_wp2_with (refine wpList_load_row rfl 28 (.tmp 8) rfl w2.heap.size rfl _ _ _ _ (unhide KX) Try.underlying28 rfl sX ?_)
      refine (unhide CB _).mono ?_
      rintro e w4 ⟨rfl, hb⟩
      have O4 := hide (((unhide O3).call hb).alloc (.cells (iv .u8 bs) 32))
      have HL := hide (((unhide O3).call hb).lt)
      have HG : Hid (W.heap.size ≤ w4.heap.size) := ((unhide O3).call hb).below.size
      clear hb O3 KX nX nY
      have nB : ∀ (U : World) (C : Array Value), C.size = 64 → Sem.run Try.prog (storeCells ⟨U.heap.size, 0, none⟩ (iv .u8 bs).toList) (U.alloc (.cells C 32)) = .ok () (U.alloc (.cells (iv .u8 bs) 32)) :=
        fun U C hC => run_store_new _ _ rfl C _ _ (by rw [hC, iv_size, unhide BL]) (iv_one _ _)
      have zB : (iv .u8 bs).size = 64 := by rw [iv_size, unhide BL]
      go_upto_region 7 with fail
      clear nB zB
      have O5 := hide ((unhide O4).drew)
      clear O4
      generalize hV : w4.alloc (.cells (iv .u8 bs) 32) = V at *
      clear hV
      generalize w4.heap.size = g at *
      generalize hD : V.drew = D at O5
      have HD := hide hD
      clear hD
      obtain ⟨tv, htv⟩ : ∃ tv, tv = bs.getD p 0 := ⟨_, rfl⟩
      have tvb : 0 ≤ tv ∧ tv ≤ 255 := by rw [htv]; exact b8_get (unhide BB) _
      have KB := hide ((unhide O5).at g (.cells (iv .u8 bs) 32) (by simp))
      have cq : D.cell? ⟨g, p, none⟩ = some (.int .u8 tv) := by rw [cell_of_block (unhide KB), iv_get _ _ _ (by rw [unhide BL]; exact hp64), htv]
      have fq : D.frozen? ⟨g, p, none⟩ = false := unfrozen_of_block (unhide KB) _
      obtain ⟨z, hz⟩ : ∃ z : Nat, z = 1 + kb := ⟨_, rfl⟩
      have hz1 : z ≠ 0 := by omega
      have hz256 : z < 256 := by omega
      have HWR : Hid (IntKind.u8.wrap (IntKind.i64.wrap (1 + (kb : Int))) = (z : Int)) := by show _ = _; rw [hz]; exact wrap_small kb hb255
      have KT : Hid ((D.setCell ⟨g, p, none⟩ (.int .u8 (bits .xor .u8 tv (z : Int)))).heap[g]? = some (.cells (iv .u8 (bs.set p ((tv.toNat ^^^ z : Nat) : Int))) 32 (0, 0))) :=
        (block_setCell (unhide KB) _).trans (by rw [iv_set, xor_turn tv tvb z hz256])
      have O6 := hide (own_turn (unhide O5) (unhide HG) (fun q hq => unhide HL q hq) (unhide KT))
      have TB : Hid (Bytes8 (bs.set p ((tv.toNat ^^^ z : Nat) : Int))) := b8_set (unhide BB) _ _ (xor_bd tv tvb z hz256)
      have TL : Hid ((bs.set p ((tv.toNat ^^^ z : Nat) : Int)).length = 64) := by show _ = _; rw [List.length_set]; exact unhide BL
      have TG : Hid (isS (lineOf (bs.set p ((tv.toNat ^^^ z : Nat) : Int))) = false) := unhide HTn _ (xor_bd tv tvb z hz256) (by rw [← htv]; exact xor_other tv tvb.1 z hz1)
      have hpi : (p : Int) < 64 := by omega
      clear htv KB O5 KT HTn BB HL HG hz
      refine wp_region_noPanic ?_
      refine wp_region_held_drew (S := fun _ => True) (by kernel_rfl) trivial (fun hHeld => ?_)
      rw [unhide HD]
      clear HD
      refine take_at 0 37 (v := ?_) rfl rfl (by kernel_rfl) (by kernel_rfl) (by kernel_rfl) (Or.inl ⟨by rfl, ?_⟩) hHeld ?_
      rotate_left
      · intro w hSw; go_simp; with_reducible rfl
      simp only [Act.put, List.setIfInBounds_toArray, List.set_cons_zero, List.set_cons_succ]
      refine take_at 2 39 (v := ?_) rfl rfl (by kernel_rfl) (by kernel_rfl) (by kernel_rfl) (Or.inl ⟨by rfl, ?_⟩) hHeld ?_
      rotate_left
      · intro w hSw; go_simp; with_reducible rfl
      simp only [Act.put, List.setIfInBounds_toArray, List.set_cons_zero, List.set_cons_succ]
      refine take_at 6 43 (v := ?_) rfl rfl (by kernel_rfl) (by kernel_rfl) (by kernel_rfl) (Or.inl ⟨by rfl, ?_⟩) hHeld ?_
      rotate_left
      · intro w hSw; go_simp; with_reducible rfl
      simp only [Act.put, List.setIfInBounds_toArray, List.set_cons_zero, List.set_cons_succ]
      refine wpAnyH_ready (rs := [1]) (by kernel_rfl) (by simp) ?_
      refine AllReadyH.cons rfl (fun K hK => ?_) AllReadyH.nil
      go_simp
      refine (unhide CK1 _).mono ?_
      rintro e D ⟨rfl, rfl⟩
      go_wp2_with fail
      refine hK.out _ _ trivial (fun hNew => ?_)
      clear hK K hNew
      refine wpAnyH_ready (rs := [3]) (by kernel_rfl) (by simp) ?_
      refine AllReadyH.cons rfl (fun K hK => ?_) AllReadyH.nil
      go_simp
      refine (unhide CK1 _).mono ?_
      rintro e D ⟨rfl, rfl⟩
      go_wp2_with fail
      refine hK.out _ _ trivial (fun hNew => ?_)
      clear hK K hNew
      refine take_at 4 41 (v := ?_) rfl rfl (by kernel_rfl) (by kernel_rfl) (by kernel_rfl) (Or.inl ⟨by rfl, ?_⟩) hHeld ?_
      rotate_left
      · intro w hSw; go_simp; with_reducible rfl
      simp only [Act.put, List.setIfInBounds_toArray, List.set_cons_zero, List.set_cons_succ]
      refine wpAnyH_ready (rs := [5, 7]) (by kernel_rfl) (by simp) ?_
      refine AllReadyH.cons rfl (fun K hK => ?_) (AllReadyH.cons rfl (fun K hK => ?_) AllReadyH.nil)
      · go_simp
        refine hK.out _ _ trivial (fun hNew => ?_)
        clear hK K hNew
        refine wpAnyH_ready (rs := [7]) (by kernel_rfl) (by simp) ?_
        refine AllReadyH.cons rfl (fun K hK => ?_) AllReadyH.nil
        go_simp
        refine (unhide CK2 _).mono ?_
        rintro e D ⟨rfl, rfl⟩
        go_wp2_with fail
        refine hK.out _ _ trivial (fun hNew => ?_)
        clear hK K hNew
        refine take_at 8 45 (v := ?_) rfl rfl (by kernel_rfl) (by kernel_rfl) (by kernel_rfl) (Or.inl ⟨by rfl, ?_⟩) hHeld ?_
        rotate_left
        · intro w hSw; go_simp; with_reducible rfl
        simp only [Act.put, List.setIfInBounds_toArray, List.set_cons_zero, List.set_cons_succ]
        refine take_at 9 46 (v := ?_) rfl rfl (by kernel_rfl) (by kernel_rfl) (by kernel_rfl) (Or.inl ⟨by rfl, ?_⟩) hHeld ?_
        rotate_left
        · intro w hSw; go_simp; with_reducible rfl
        simp only [Act.put, List.setIfInBounds_toArray, List.set_cons_zero, List.set_cons_succ]
        rw [unhide HWR]
        refine take_at 10 47 (v := ?_) rfl rfl (by kernel_rfl) (by kernel_rfl) (by kernel_rfl) (Or.inl ⟨by rfl, ?_⟩) hHeld ?_
        rotate_left
        · intro w hSw; go_simp; with_reducible rfl
        simp only [Act.put, List.setIfInBounds_toArray, List.set_cons_zero, List.set_cons_succ]
        refine take_at 11 48 (v := ?_) rfl rfl (by kernel_rfl) (by kernel_rfl) (by kernel_rfl) (Or.inl ⟨by rfl, ?_⟩) hHeld ?_
        rotate_left
        · intro w hSw; go_simp; with_reducible rfl
        simp only [Act.put, List.setIfInBounds_toArray, List.set_cons_zero, List.set_cons_succ]
        refine wpAnyH_ready (rs := [12]) (by kernel_rfl) (by simp) ?_
        refine AllReadyH.cons rfl (fun K hK => ?_) AllReadyH.nil
        go_simp
        refine hK.out _ _ trivial (fun hNew => ?_)
        clear hK K hNew hHeld
        refine wpAnyH_done (by kernel_rfl) ?_ _
        refine NoPanic.normal ?_
        clear cq fq tvb HWR
        generalize D.setCell ⟨g, p, none⟩ (.int .u8 (bits .xor .u8 tv (z : Int))) = F at *
        generalize bs.set p ((tv.toNat ^^^ z : Nat) : Int) = ts at *
        have tw : ∀ y ∈ ts, (Lit.int .u8 y).wf = true := fun y hy => by
          have := unhide TB y hy
          simp [Lit.wf, IntKind.min, IntKind.max, IntKind.signed, IntKind.bits]; omega
        have lw : ∀ y ∈ lineOf ts, (Lit.int .u64 y).wf = true := fun y hy => by
          have := lineOf_bd ts (fun n => b8_get (unhide TB) n) y hy
          simp [Lit.wf, IntKind.min, IntKind.max, IntKind.signed, IntKind.bits]; omega
        have CO : Hid (∀ w : World, Calls Try.prog 9 #[.agg (iv .u8 ts)] w fun e w' => e = .returned (.agg (iv .u64 (lineOf ts))) ∧ Below w.heap.size w w') := fun w => ofBytes_any ts (unhide TL) tw w
        have CD : Hid (∀ w : World, Calls Try.prog 8 #[.agg (iv .u64 (lineOf ts))] w fun e w' => e = .returned (.tuple #[.agg (iv .i64 (readV (lineOf ts))), .bool false]) ∧ Below w.heap.size w w') := fun w => by
          rw [← unhide TG]; exact read_any (lineOf ts) (lineOf_len _) lw w
        have s64 : (Try.prog.info? 32).map (·.size) = some (iv .u8 ts).size := by rw [iv_size, unhide TL]; exact size64
        have oR : (iv .i64 (readV (lineOf ts))).all (·.oneCell') = true := iv_one _ _
        have zR : (iv .i64 (readV (lineOf ts))).size = 4 := by rw [iv_size, readV_len]
        clear tw lw
        have KT := hide ((unhide O6).at g (.cells (iv .u8 ts) 32) (by simp))
        generalize iv .u8 ts = TS at *
        generalize iv .i64 (readV (lineOf ts)) = RV at *
        generalize iv .u64 (lineOf ts) = LT at *
        clear TB TL TG
        go_wp2_with (refine wpList_load_row rfl 32 _ rfl g rfl _ _ _ _ (unhide KT) Try.underlying32 rfl s64 ?_)
        refine (unhide CO _).mono ?_
        rintro e w6 ⟨rfl, hb⟩
        have O7 := hide ((unhide O6).call hb)
        clear hb KT O6 CO
        go_wp2_with fail
        refine (unhide CD _).mono ?_
        rintro e w7 ⟨rfl, hb⟩
        have O8 := hide ((((unhide O7).call hb).alloc (.cells RV 23)).drew)
        clear hb O7 CD
        go_wp2_with (with_reducible refine wpList_haltS 23 (.tmp 13) (.tmp 53) (by with_unfolding_all rfl) ?_)
        refine hide ?_
        rw [zero4]
        refine wpList_store_row rfl 23 (.tmp 13) (.tmp 53) rfl w7.heap.size RV rfl rfl _ _ (heap_new w7 (.cells (iv .i64 zs4) 23)) (by rw [zR]; exact size4) (by rw [zR]; rfl) oR ?_
        rw [setRow_alloc]
        go_wp2_with fail
        clear zR
        generalize w7.alloc (.cells RV 23) = Z at *
        generalize hZ : Z.drew = Y0 at O8
        have HZ := hide hZ
        clear hZ
        have R8 : Hid (Y0.rangeAt w2.heap.size 0 X.toList) := fun j v hv => by
          rw [cell_of_block ((unhide O8).at w2.heap.size (.cells X 28) (by simp)), Nat.zero_add]; simpa using hv
        have R10 : Hid (Y0.rangeAt w3.heap.size 0 Y.toList) := fun j v hv => by
          rw [cell_of_block ((unhide O8).at w3.heap.size (.cells Y 28) (by simp)), Nat.zero_add]; simpa using hv
        have RS := hide (two_first ((unhide O8).at W.heap.size (.cells (iv .i64 (s ++ t)) 24) (by simp)))
        have RT := hide (two_second (unhide HS) ((unhide O8).at W.heap.size (.cells (iv .i64 (s ++ t)) 24) (by simp)))
        have HBl := hide (unhide O8).below
        have hjX : (Try.prog.info? 28).map (·.size) = some X.toList.length := by rw [Array.length_toList]; exact sX
        have hjY : (Try.prog.info? 28).map (·.size) = some Y.toList.length := by rw [Array.length_toList]; exact sY
        have EX2 : Hid (∀ w, (Op.equalIn 10000 28 (.agg X.toList.toArray) (.agg Y.toList.toArray)).run Try.prog w = .ok (decide (s = t)) w) := fun w => by rw [Array.toArray_toList, Array.toArray_toList]; exact unhide EX w
        have ES2 : Hid (∀ w, (Op.equalIn 10000 23 (.agg (iv .i64 s).toList.toArray) (.agg (iv .i64 t).toList.toArray)).run Try.prog w = .ok (decide (s = t)) w) := fun w => by rw [Array.toArray_toList, Array.toArray_toList]; exact unhide ES w
        generalize decide (s = t) = dd at *
        clear EX ES O8 C1 C2 CB CK1 CK2
        refine wp_region_noPanic ?_
        refine wp_region_held_drew (S := fun w' => w'.rangeAt w2.heap.size 0 X.toList ∧ w'.rangeAt w3.heap.size 0 Y.toList ∧ w'.rangeAt W.heap.size 0 (iv .i64 s).toList ∧ w'.rangeAt W.heap.size 4 (iv .i64 t).toList) (by kernel_rfl) (by rw [unhide HZ]; exact ⟨unhide R8, unhide R10, unhide RS, unhide RT⟩) (fun hHeld => ?_)
        rw [unhide HZ] at hHeld ⊢
        clear HZ R8 R10 RS RT
        refine take_at 0 55 (v := ?_) rfl rfl (by kernel_rfl) (by kernel_rfl) (by kernel_rfl) (Or.inl ⟨by rfl, ?_⟩) hHeld ?_
        rotate_left
        · intro w hSw; go_simp; with_reducible rfl
        simp only [Act.put, List.setIfInBounds_toArray, List.set_cons_zero, List.set_cons_succ]
        refine take_at 1 56 (v := ?_) rfl rfl (by kernel_rfl) (by kernel_rfl) (by kernel_rfl) (Or.inl ⟨by rfl, ?_⟩) hHeld ?_
        rotate_left
        · intro w hSw; go_simp; with_reducible rfl
        simp only [Act.put, List.setIfInBounds_toArray, List.set_cons_zero, List.set_cons_succ]
        refine take_at 2 57 rfl rfl (by kernel_rfl) (by kernel_rfl) (by kernel_rfl) (yieldsIf_load_mid (by rfl) 28 _ rfl w2.heap.size 0 rfl X.toList _ (fun w h => h.1) Try.underlying28 rfl hjX) hHeld ?_
        simp only [Act.put, List.setIfInBounds_toArray, List.set_cons_zero, List.set_cons_succ]
        refine take_at 3 58 rfl rfl (by kernel_rfl) (by kernel_rfl) (by kernel_rfl) (yieldsIf_load_mid (by rfl) 28 _ rfl w3.heap.size 0 rfl Y.toList _ (fun w h => h.2.1) Try.underlying28 rfl hjY) hHeld ?_
        simp only [Act.put, List.setIfInBounds_toArray, List.set_cons_zero, List.set_cons_succ]
        refine take_at 4 59 rfl rfl (by kernel_rfl) (by kernel_rfl) (by kernel_rfl) (yieldsIf_eql (by rfl) 28 28 _ _ rfl X.toList.toArray Y.toList.toArray rfl rfl line_guard2 dd (unhide EX2)) hHeld ?_
        simp only [Act.put, List.setIfInBounds_toArray, List.set_cons_zero, List.set_cons_succ]
        refine take_at 5 60 (v := ?_) rfl rfl (by kernel_rfl) (by kernel_rfl) (by kernel_rfl) (Or.inl ⟨by rfl, ?_⟩) hHeld ?_
        rotate_left
        · intro w hSw; go_simp; with_reducible rfl
        simp only [Act.put, List.setIfInBounds_toArray, List.set_cons_zero, List.set_cons_succ]
        refine take_at 6 61 rfl rfl (by kernel_rfl) (by kernel_rfl) (by kernel_rfl) (yieldsIf_load_mid (by rfl) 23 _ rfl W.heap.size 0 rfl (iv .i64 s).toList _ (fun w h => h.2.2.1) Try.underlying23 rfl ss) hHeld ?_
        simp only [Act.put, List.setIfInBounds_toArray, List.set_cons_zero, List.set_cons_succ]
        refine take_at 7 62 (v := ?_) rfl rfl (by kernel_rfl) (by kernel_rfl) (by kernel_rfl) (Or.inl ⟨by rfl, ?_⟩) hHeld ?_
        rotate_left
        · intro w hSw; go_simp; with_reducible rfl
        simp only [Act.put, List.setIfInBounds_toArray, List.set_cons_zero, List.set_cons_succ]
        refine take_at 8 63 rfl rfl (by kernel_rfl) (by kernel_rfl) (by kernel_rfl) (yieldsIf_load_mid (by rfl) 23 _ rfl W.heap.size 4 rfl (iv .i64 t).toList _ (fun w h => h.2.2.2) Try.underlying23 rfl st) hHeld ?_
        simp only [Act.put, List.setIfInBounds_toArray, List.set_cons_zero, List.set_cons_succ]
        refine take_at 9 64 rfl rfl (by kernel_rfl) (by kernel_rfl) (by kernel_rfl) (yieldsIf_eql (by rfl) 23 23 _ _ rfl (iv .i64 s).toList.toArray (iv .i64 t).toList.toArray rfl rfl super_guard dd (unhide ES2)) hHeld ?_
        simp only [Act.put, List.setIfInBounds_toArray, List.set_cons_zero, List.set_cons_succ]
        refine take_at 10 65 (v := ?_) rfl rfl (by kernel_rfl) (by kernel_rfl) (by kernel_rfl) (Or.inl ⟨by rfl, ?_⟩) hHeld ?_
        rotate_left
        · intro w hSw; go_simp; with_reducible rfl
        simp only [Act.put, List.setIfInBounds_toArray, List.set_cons_zero, List.set_cons_succ]
        refine take_at 11 66 (v := ?_) rfl rfl (by kernel_rfl) (by kernel_rfl) (by kernel_rfl) (Or.inl ⟨by rfl, ?_⟩) hHeld ?_
        rotate_left
        · intro w hSw; go_simp; with_reducible rfl
        simp only [Act.put, List.setIfInBounds_toArray, List.set_cons_zero, List.set_cons_succ]
        refine take_at 12 67 (v := ?_) rfl rfl (by kernel_rfl) (by kernel_rfl) (by kernel_rfl) (Or.inl ⟨by rfl, ?_⟩) hHeld ?_
        rotate_left
        · intro w hSw; go_simp; with_reducible rfl
        simp only [Act.put, List.setIfInBounds_toArray, List.set_cons_zero, List.set_cons_succ]
        refine take_at 13 68 (v := ?_) rfl rfl (by kernel_rfl) (by kernel_rfl) (by kernel_rfl) (Or.inl ⟨by rfl, ?_⟩) hHeld ?_
        rotate_left
        · intro w hSw; go_simp; with_reducible rfl
        simp only [Act.put, List.setIfInBounds_toArray, List.set_cons_zero, List.set_cons_succ]
        refine take_at 14 69 (v := ?_) rfl rfl (by kernel_rfl) (by kernel_rfl) (by kernel_rfl) (Or.inl ⟨by rfl, ?_⟩) hHeld ?_
        rotate_left
        · intro w hSw; go_simp; with_reducible rfl
        simp only [Act.put, List.setIfInBounds_toArray, List.set_cons_zero, List.set_cons_succ]
        refine take_at 15 70 (v := ?_) rfl rfl (by kernel_rfl) (by kernel_rfl) (by kernel_rfl) (Or.inl ⟨by rfl, ?_⟩) hHeld ?_
        rotate_left
        · intro w hSw; go_simp; with_reducible rfl
        simp only [Act.put, List.setIfInBounds_toArray, List.set_cons_zero, List.set_cons_succ]
        refine take_at 16 6 (v := ?_) rfl rfl (by kernel_rfl) (by kernel_rfl) (by kernel_rfl) (Or.inl ⟨by rfl, ?_⟩) hHeld ?_
        rotate_left
        · intro w hSw; go_simp; with_reducible rfl
        simp only [Act.put, List.setIfInBounds_toArray, List.set_cons_zero, List.set_cons_succ]
        refine wpAnyH_done (by kernel_rfl) ?_ _
        refine NoPanic.normal ?_
        go_wp2_with fail
        go_ret
        exact ⟨rfl, unhide HBl⟩
      · go_simp
        refine (unhide CK2 _).mono ?_
        rintro e D ⟨rfl, rfl⟩
        go_wp2_with fail
        refine hK.out _ _ trivial (fun hNew => ?_)
        clear hK K hNew
        refine take_at 8 45 (v := ?_) rfl rfl (by kernel_rfl) (by kernel_rfl) (by kernel_rfl) (Or.inl ⟨by rfl, ?_⟩) hHeld ?_
        rotate_left
        · intro w hSw; go_simp; with_reducible rfl
        simp only [Act.put, List.setIfInBounds_toArray, List.set_cons_zero, List.set_cons_succ]
        refine take_at 9 46 (v := ?_) rfl rfl (by kernel_rfl) (by kernel_rfl) (by kernel_rfl) (Or.inl ⟨by rfl, ?_⟩) hHeld ?_
        rotate_left
        · intro w hSw; go_simp; with_reducible rfl
        simp only [Act.put, List.setIfInBounds_toArray, List.set_cons_zero, List.set_cons_succ]
        rw [unhide HWR]
        refine wpAnyH_ready (rs := [5]) (by kernel_rfl) (by simp) ?_
        refine AllReadyH.cons rfl (fun K hK => ?_) AllReadyH.nil
        go_simp
        refine hK.out _ _ trivial (fun hNew => ?_)
        clear hK K hNew
        refine take_at 10 47 (v := ?_) rfl rfl (by kernel_rfl) (by kernel_rfl) (by kernel_rfl) (Or.inl ⟨by rfl, ?_⟩) hHeld ?_
        rotate_left
        · intro w hSw; go_simp; with_reducible rfl
        simp only [Act.put, List.setIfInBounds_toArray, List.set_cons_zero, List.set_cons_succ]
        refine take_at 11 48 (v := ?_) rfl rfl (by kernel_rfl) (by kernel_rfl) (by kernel_rfl) (Or.inl ⟨by rfl, ?_⟩) hHeld ?_
        rotate_left
        · intro w hSw; go_simp; with_reducible rfl
        simp only [Act.put, List.setIfInBounds_toArray, List.set_cons_zero, List.set_cons_succ]
        refine wpAnyH_ready (rs := [12]) (by kernel_rfl) (by simp) ?_
        refine AllReadyH.cons rfl (fun K hK => ?_) AllReadyH.nil
        go_simp
        refine hK.out _ _ trivial (fun hNew => ?_)
        clear hK K hNew hHeld
        refine wpAnyH_done (by kernel_rfl) ?_ _
        refine NoPanic.normal ?_
        clear cq fq tvb HWR
        generalize D.setCell ⟨g, p, none⟩ (.int .u8 (bits .xor .u8 tv (z : Int))) = F at *
        generalize bs.set p ((tv.toNat ^^^ z : Nat) : Int) = ts at *
        have tw : ∀ y ∈ ts, (Lit.int .u8 y).wf = true := fun y hy => by
          have := unhide TB y hy
          simp [Lit.wf, IntKind.min, IntKind.max, IntKind.signed, IntKind.bits]; omega
        have lw : ∀ y ∈ lineOf ts, (Lit.int .u64 y).wf = true := fun y hy => by
          have := lineOf_bd ts (fun n => b8_get (unhide TB) n) y hy
          simp [Lit.wf, IntKind.min, IntKind.max, IntKind.signed, IntKind.bits]; omega
        have CO : Hid (∀ w : World, Calls Try.prog 9 #[.agg (iv .u8 ts)] w fun e w' => e = .returned (.agg (iv .u64 (lineOf ts))) ∧ Below w.heap.size w w') := fun w => ofBytes_any ts (unhide TL) tw w
        have CD : Hid (∀ w : World, Calls Try.prog 8 #[.agg (iv .u64 (lineOf ts))] w fun e w' => e = .returned (.tuple #[.agg (iv .i64 (readV (lineOf ts))), .bool false]) ∧ Below w.heap.size w w') := fun w => by
          rw [← unhide TG]; exact read_any (lineOf ts) (lineOf_len _) lw w
        have s64 : (Try.prog.info? 32).map (·.size) = some (iv .u8 ts).size := by rw [iv_size, unhide TL]; exact size64
        have oR : (iv .i64 (readV (lineOf ts))).all (·.oneCell') = true := iv_one _ _
        have zR : (iv .i64 (readV (lineOf ts))).size = 4 := by rw [iv_size, readV_len]
        clear tw lw
        have KT := hide ((unhide O6).at g (.cells (iv .u8 ts) 32) (by simp))
        generalize iv .u8 ts = TS at *
        generalize iv .i64 (readV (lineOf ts)) = RV at *
        generalize iv .u64 (lineOf ts) = LT at *
        clear TB TL TG
        go_wp2_with (refine wpList_load_row rfl 32 _ rfl g rfl _ _ _ _ (unhide KT) Try.underlying32 rfl s64 ?_)
        refine (unhide CO _).mono ?_
        rintro e w6 ⟨rfl, hb⟩
        have O7 := hide ((unhide O6).call hb)
        clear hb KT O6 CO
        go_wp2_with fail
        refine (unhide CD _).mono ?_
        rintro e w7 ⟨rfl, hb⟩
        have O8 := hide ((((unhide O7).call hb).alloc (.cells RV 23)).drew)
        clear hb O7 CD
        go_wp2_with (with_reducible refine wpList_haltS 23 (.tmp 13) (.tmp 53) (by with_unfolding_all rfl) ?_)
        refine hide ?_
        rw [zero4]
        refine wpList_store_row rfl 23 (.tmp 13) (.tmp 53) rfl w7.heap.size RV rfl rfl _ _ (heap_new w7 (.cells (iv .i64 zs4) 23)) (by rw [zR]; exact size4) (by rw [zR]; rfl) oR ?_
        rw [setRow_alloc]
        go_wp2_with fail
        clear zR
        generalize w7.alloc (.cells RV 23) = Z at *
        generalize hZ : Z.drew = Y0 at O8
        have HZ := hide hZ
        clear hZ
        have R8 : Hid (Y0.rangeAt w2.heap.size 0 X.toList) := fun j v hv => by
          rw [cell_of_block ((unhide O8).at w2.heap.size (.cells X 28) (by simp)), Nat.zero_add]; simpa using hv
        have R10 : Hid (Y0.rangeAt w3.heap.size 0 Y.toList) := fun j v hv => by
          rw [cell_of_block ((unhide O8).at w3.heap.size (.cells Y 28) (by simp)), Nat.zero_add]; simpa using hv
        have RS := hide (two_first ((unhide O8).at W.heap.size (.cells (iv .i64 (s ++ t)) 24) (by simp)))
        have RT := hide (two_second (unhide HS) ((unhide O8).at W.heap.size (.cells (iv .i64 (s ++ t)) 24) (by simp)))
        have HBl := hide (unhide O8).below
        have hjX : (Try.prog.info? 28).map (·.size) = some X.toList.length := by rw [Array.length_toList]; exact sX
        have hjY : (Try.prog.info? 28).map (·.size) = some Y.toList.length := by rw [Array.length_toList]; exact sY
        have EX2 : Hid (∀ w, (Op.equalIn 10000 28 (.agg X.toList.toArray) (.agg Y.toList.toArray)).run Try.prog w = .ok (decide (s = t)) w) := fun w => by rw [Array.toArray_toList, Array.toArray_toList]; exact unhide EX w
        have ES2 : Hid (∀ w, (Op.equalIn 10000 23 (.agg (iv .i64 s).toList.toArray) (.agg (iv .i64 t).toList.toArray)).run Try.prog w = .ok (decide (s = t)) w) := fun w => by rw [Array.toArray_toList, Array.toArray_toList]; exact unhide ES w
        generalize decide (s = t) = dd at *
        clear EX ES O8 C1 C2 CB CK1 CK2
        refine wp_region_noPanic ?_
        refine wp_region_held_drew (S := fun w' => w'.rangeAt w2.heap.size 0 X.toList ∧ w'.rangeAt w3.heap.size 0 Y.toList ∧ w'.rangeAt W.heap.size 0 (iv .i64 s).toList ∧ w'.rangeAt W.heap.size 4 (iv .i64 t).toList) (by kernel_rfl) (by rw [unhide HZ]; exact ⟨unhide R8, unhide R10, unhide RS, unhide RT⟩) (fun hHeld => ?_)
        rw [unhide HZ] at hHeld ⊢
        clear HZ R8 R10 RS RT
        refine take_at 0 55 (v := ?_) rfl rfl (by kernel_rfl) (by kernel_rfl) (by kernel_rfl) (Or.inl ⟨by rfl, ?_⟩) hHeld ?_
        rotate_left
        · intro w hSw; go_simp; with_reducible rfl
        simp only [Act.put, List.setIfInBounds_toArray, List.set_cons_zero, List.set_cons_succ]
        refine take_at 1 56 (v := ?_) rfl rfl (by kernel_rfl) (by kernel_rfl) (by kernel_rfl) (Or.inl ⟨by rfl, ?_⟩) hHeld ?_
        rotate_left
        · intro w hSw; go_simp; with_reducible rfl
        simp only [Act.put, List.setIfInBounds_toArray, List.set_cons_zero, List.set_cons_succ]
        refine take_at 2 57 rfl rfl (by kernel_rfl) (by kernel_rfl) (by kernel_rfl) (yieldsIf_load_mid (by rfl) 28 _ rfl w2.heap.size 0 rfl X.toList _ (fun w h => h.1) Try.underlying28 rfl hjX) hHeld ?_
        simp only [Act.put, List.setIfInBounds_toArray, List.set_cons_zero, List.set_cons_succ]
        refine take_at 3 58 rfl rfl (by kernel_rfl) (by kernel_rfl) (by kernel_rfl) (yieldsIf_load_mid (by rfl) 28 _ rfl w3.heap.size 0 rfl Y.toList _ (fun w h => h.2.1) Try.underlying28 rfl hjY) hHeld ?_
        simp only [Act.put, List.setIfInBounds_toArray, List.set_cons_zero, List.set_cons_succ]
        refine take_at 4 59 rfl rfl (by kernel_rfl) (by kernel_rfl) (by kernel_rfl) (yieldsIf_eql (by rfl) 28 28 _ _ rfl X.toList.toArray Y.toList.toArray rfl rfl line_guard2 dd (unhide EX2)) hHeld ?_
        simp only [Act.put, List.setIfInBounds_toArray, List.set_cons_zero, List.set_cons_succ]
        refine take_at 5 60 (v := ?_) rfl rfl (by kernel_rfl) (by kernel_rfl) (by kernel_rfl) (Or.inl ⟨by rfl, ?_⟩) hHeld ?_
        rotate_left
        · intro w hSw; go_simp; with_reducible rfl
        simp only [Act.put, List.setIfInBounds_toArray, List.set_cons_zero, List.set_cons_succ]
        refine take_at 6 61 rfl rfl (by kernel_rfl) (by kernel_rfl) (by kernel_rfl) (yieldsIf_load_mid (by rfl) 23 _ rfl W.heap.size 0 rfl (iv .i64 s).toList _ (fun w h => h.2.2.1) Try.underlying23 rfl ss) hHeld ?_
        simp only [Act.put, List.setIfInBounds_toArray, List.set_cons_zero, List.set_cons_succ]
        refine take_at 7 62 (v := ?_) rfl rfl (by kernel_rfl) (by kernel_rfl) (by kernel_rfl) (Or.inl ⟨by rfl, ?_⟩) hHeld ?_
        rotate_left
        · intro w hSw; go_simp; with_reducible rfl
        simp only [Act.put, List.setIfInBounds_toArray, List.set_cons_zero, List.set_cons_succ]
        refine take_at 8 63 rfl rfl (by kernel_rfl) (by kernel_rfl) (by kernel_rfl) (yieldsIf_load_mid (by rfl) 23 _ rfl W.heap.size 4 rfl (iv .i64 t).toList _ (fun w h => h.2.2.2) Try.underlying23 rfl st) hHeld ?_
        simp only [Act.put, List.setIfInBounds_toArray, List.set_cons_zero, List.set_cons_succ]
        refine take_at 9 64 rfl rfl (by kernel_rfl) (by kernel_rfl) (by kernel_rfl) (yieldsIf_eql (by rfl) 23 23 _ _ rfl (iv .i64 s).toList.toArray (iv .i64 t).toList.toArray rfl rfl super_guard dd (unhide ES2)) hHeld ?_
        simp only [Act.put, List.setIfInBounds_toArray, List.set_cons_zero, List.set_cons_succ]
        refine take_at 10 65 (v := ?_) rfl rfl (by kernel_rfl) (by kernel_rfl) (by kernel_rfl) (Or.inl ⟨by rfl, ?_⟩) hHeld ?_
        rotate_left
        · intro w hSw; go_simp; with_reducible rfl
        simp only [Act.put, List.setIfInBounds_toArray, List.set_cons_zero, List.set_cons_succ]
        refine take_at 11 66 (v := ?_) rfl rfl (by kernel_rfl) (by kernel_rfl) (by kernel_rfl) (Or.inl ⟨by rfl, ?_⟩) hHeld ?_
        rotate_left
        · intro w hSw; go_simp; with_reducible rfl
        simp only [Act.put, List.setIfInBounds_toArray, List.set_cons_zero, List.set_cons_succ]
        refine take_at 12 67 (v := ?_) rfl rfl (by kernel_rfl) (by kernel_rfl) (by kernel_rfl) (Or.inl ⟨by rfl, ?_⟩) hHeld ?_
        rotate_left
        · intro w hSw; go_simp; with_reducible rfl
        simp only [Act.put, List.setIfInBounds_toArray, List.set_cons_zero, List.set_cons_succ]
        refine take_at 13 68 (v := ?_) rfl rfl (by kernel_rfl) (by kernel_rfl) (by kernel_rfl) (Or.inl ⟨by rfl, ?_⟩) hHeld ?_
        rotate_left
        · intro w hSw; go_simp; with_reducible rfl
        simp only [Act.put, List.setIfInBounds_toArray, List.set_cons_zero, List.set_cons_succ]
        refine take_at 14 69 (v := ?_) rfl rfl (by kernel_rfl) (by kernel_rfl) (by kernel_rfl) (Or.inl ⟨by rfl, ?_⟩) hHeld ?_
        rotate_left
        · intro w hSw; go_simp; with_reducible rfl
        simp only [Act.put, List.setIfInBounds_toArray, List.set_cons_zero, List.set_cons_succ]
        refine take_at 15 70 (v := ?_) rfl rfl (by kernel_rfl) (by kernel_rfl) (by kernel_rfl) (Or.inl ⟨by rfl, ?_⟩) hHeld ?_
        rotate_left
        · intro w hSw; go_simp; with_reducible rfl
        simp only [Act.put, List.setIfInBounds_toArray, List.set_cons_zero, List.set_cons_succ]
        refine take_at 16 6 (v := ?_) rfl rfl (by kernel_rfl) (by kernel_rfl) (by kernel_rfl) (Or.inl ⟨by rfl, ?_⟩) hHeld ?_
        rotate_left
        · intro w hSw; go_simp; with_reducible rfl
        simp only [Act.put, List.setIfInBounds_toArray, List.set_cons_zero, List.set_cons_succ]
        refine wpAnyH_done (by kernel_rfl) ?_ _
        refine NoPanic.normal ?_
        go_wp2_with fail
        go_ret
        exact ⟨rfl, unhide HBl⟩

set_option maxRecDepth 100000 in
theorem lifted (os : Os) (started : os.Started) (H : Type) (enc : TypeId × Value → H) :
    ReturnsInHanded {} Try.checked os 3 .any (Rows.superApartSpec.pre6 enc Try.prog Try.f3 Rows.superApartRow.domain false) (Rows.superApartSpec.post enc Try.prog Try.f3 false true false false) := by
  refine law_frame (C := Try.checked) (ts := [24, 3, 3]) (tb := 4) (by kernel_rfl) started (by kernel_rfl) Try.func3 Try.params3 (by kernel_rfl) Try.underlying4 (by kernel_rfl) (by kernel_rfl) rfl ?_
    (ChangeSpec.witness6 (enc := enc) (C := Try.checked) false ⟨#[], #[.agg (iv .i64 (List.replicate 8 0)), .int .i64 0, .int .i64 0], []⟩ 8 (by kernel_rfl) (by kernel_rfl) (by kernel_rfl) (by kernel_rfl)) ?_
  · intro ds hd
    match ds, hd with
    | [d0, d1, d2], _ => rfl
  · intro W base args ds p hval hA
    obtain ⟨v0, vs0, d0, ds0, p0, q0, hargs, rfl, rfl, h0, r0⟩ := trodAll_cons hA
    obtain ⟨v1, vs1, d1, ds1, p1, q1, rfl, rfl, rfl, h1, r1⟩ := trodAll_cons r0
    obtain ⟨v2, vs2, d2, ds2, p2, q2, rfl, rfl, rfl, h2, r2⟩ := trodAll_cons r1
    obtain ⟨rfl, rfl, rfl⟩ := trodAll_nil r2
    obtain rfl : args = #[v0, v1, v2] := by cases args; simp_all
    obtain ⟨s, t, rfl, hst⟩ := open_two (hval 0 24 v0 rfl rfl) h0
    obtain ⟨x, rfl, rfl, rfl, wx⟩ := open_int Try.underlying3 (hval 1 3 v1 rfl rfl) h1
    obtain ⟨y, rfl, rfl, rfl, wy⟩ := open_int Try.underlying3 (hval 2 3 v2 rfl rfl) h2
    exact walk W s t x y hst wx wy

theorem over : Rows.superApartRow.holds Try.pinned (OpenSpec.ofChange Rows.superApartSpec) :=
  OpenClaim.holds_of_wide 3 Try.f3 rfl rfl rfl rfl rfl rfl rfl ⟨rfl, rfl, rfl, rfl, rfl⟩ rfl rfl rfl rfl rfl (by kernel_rfl) Try.func3 (by kernel_rfl)
    (of_decide_eq_true (by kernel_rfl)) (by unfold Func.isWrapper; first | (rw [if_pos (by decide +kernel)]; kernel_rfl) | (rw [if_neg (by decide +kernel)]; exact ⟨rfl, rfl⟩))
    (fun os started H enc _ => lifted os started H enc)

end Go.Proofs.Ytmmgacpipcgkdab.superApart
namespace Go.Proofs.Ytmmgacpipcgkdab
theorem superApart_holds : Rows.SuperApartSaid := superApart.over
end Go.Proofs.Ytmmgacpipcgkdab
