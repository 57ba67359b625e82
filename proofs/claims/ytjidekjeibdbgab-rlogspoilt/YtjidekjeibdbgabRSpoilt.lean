
/-
  For every record, every place and every number, RlogSpoilt returns true and leaves its arguments as they were: a record of whose line bits of one byte are turned is none. No condition.
-/
import Derived.Test.YtjidekjeibdbgabPkScan
import Derived.Test.YtjidekjeibdbgabRKind
import Derived.Test.YtjidekjeibdbgabRows
import Derived.Deep.RegionHeld3
import Derived.Deep.MidRow
import Derived.Deep.Cut
namespace Go.Proofs.Ytjidekjeibdbgab.rlogSpoilt
open Go.ChangeShapes Go.WideShapes Go.ChangeAt Go.RowKit Go.Joins
set_option linter.unusedVariables false
set_option linter.unusedSimpArgs false

/-- The walk halts at a store. -/
theorem wpList_haltS {P : Program} {ops : Array Oper} {rest : List Oper} {op : Oper} {a : Act} {w : World} {Q : Exit → Act → World → Prop} (ty : TypeId) (x y : Operand) (ho : op.op = .store ty x y) (h : Hid (wpList P ops Q (op :: rest) a w)) : wpList P ops Q (op :: rest) a w := h
theorem own_turn {W w : World} {g p : Nat} {v : Value} {o o' : Obj} {L : List (Nat × Obj)} (h : Own W w ((g, o) :: L)) (hW : W.heap.size ≤ g) (hne : ∀ q ∈ L, q.1 < g) (hg : (w.setCell ⟨g, p, none⟩ v).heap[g]? = some o') : Own W (w.setCell ⟨g, p, none⟩ v) ((g, o') :: L) :=
  ⟨h.below.setCell (p := ⟨g, p, none⟩) hW _, fun q hq => by
    rcases List.mem_cons.1 hq with rfl | hq
    · exact hg
    · have := hne q hq
      exact (heap_setCell_other w ⟨g, p, none⟩ q.1 _ (by simp; omega)).trans (h.at _ _ (List.mem_cons_of_mem _ hq))⟩
theorem wrap_small (kb : Nat) (h : kb < 255) : IntKind.u8.wrap (IntKind.i64.wrap (1 + (kb : Int))) = ((1 + kb : Nat) : Int) := by
  simp [IntKind.wrap, IntKind.signed, IntKind.bits]; omega
set_option maxHeartbeats 4000000 in
set_option maxRecDepth 100000 in
theorem walk (s : Rc) (x y : Int) (hs : IsRec s) (wx : (Lit.int .i64 x).wf = true) (wy : (Lit.int .i64 y).wf = true) (W : World) :
    Calls Try.prog 3 #[.agg (rv s), .int .i64 x, .int .i64 y] W fun e W' => e = .returned (.bool true) ∧ Below W.heap.size W W' := by
  have hok := isRec_ok hs
  have sr : (Try.prog.info? 24).map (·.size) = some (rv s).size := size4R
  have C1 := hide (lineR_any s hok)
  have nX := iv_new .u64 (lineRV s) 8 (lineRV_len _) 27
  have zX : (iv .u64 (lineRV s)).size = 8 := by rw [iv_size, lineRV_len]
  have CK1 := hide (rkind_any x (in64_wf wx) 64 (by decide) (by decide))
  have CK2 := hide (rkind_any y (in64_wf wy) 255 (by decide) (by decide))
  clear hs wx wy
  cases hm : mayR s with
  | false =>
    rw [show lineRE s = 1 by simp [lineRE, hm]] at C1
    clear hm CK1 CK2
    generalize iv .u64 (lineRV s) = X at *
    generalize rv s = RR at *
    have O0 := hide ((Own.start W).alloc (.cells RR 24))
    go_enter Try.func3, Try.ntmps3
    go_wp2_with fail
    refine (shown6_any _).mono ?_
    rintro e w1 ⟨rfl, hk⟩
    have O1 := hide ((unhide O0).call hk.asBelow)
    clear hk O0
    have KR := hide ((unhide O1).at W.heap.size (.cells RR 24) (by simp))
    go_wp2_with (refine wpList_load_row rfl 24 _ rfl W.heap.size rfl _ _ _ _ (unhide KR) Try.underlying24 rfl sr ?_)
    refine (unhide C1 _).mono ?_
    rintro e w2 ⟨rfl, hb⟩
    have O2 := hide (((unhide O1).call hb).alloc (.cells X 27))
    clear hb O1 KR
    go_wp2_with fail
    go_ret
    exact ⟨rfl, (unhide O2).below⟩
  | true =>
    rw [show lineRE s = 0 by simp [lineRE, hm]] at C1
    have sX := infoLR (lineRV_len s)
    have CB := hide (bytes_any (lineRV s) (lineRV_len s) (lineRV_wf s hok))
    have hp64 := kindN_lt x 64 (by decide)
    have hb255 := kindN_lt y 255 (by decide)
    generalize kindN x 64 = p at *
    generalize kindN y 255 = kb at *
    have HTn : Hid (∀ v, 0 ≤ v ∧ v ≤ 255 → v ≠ (bytesOf (lineRV s)).getD p 0 → isR (lineOf ((bytesOf (lineRV s)).set p v)) = false) := fun v h1 h2 => by rw [lineRV_may s hm] at h2 ⊢; exact none_turnedR s hok hm p hp64 v h1 h2
    obtain ⟨bs, hbs⟩ : ∃ bs, bs = bytesOf (lineRV s) := ⟨_, rfl⟩
    have BL : Hid (bs.length = 64) := by show _ = _; rw [hbs, bytesOf_len]
    have BB : Hid (Bytes8 bs) := by show Bytes8 bs; rw [hbs]; exact bytesOf_b8 _
    rw [← hbs] at CB HTn
    clear hm hbs hok
    generalize iv .u64 (lineRV s) = X at *
    generalize rv s = RR at *
    have O0 := hide ((Own.start W).alloc (.cells RR 24))
    go_enter Try.func3, Try.ntmps3
    go_wp2_with fail
    refine (shown6_any _).mono ?_
    rintro e w1 ⟨rfl, hk⟩
    have O1 := hide ((unhide O0).call hk.asBelow)
    clear hk O0
    have KR := hide ((unhide O1).at W.heap.size (.cells RR 24) (by simp))
    go_wp2_with (refine wpList_load_row rfl 24 _ rfl W.heap.size rfl _ _ _ _ (unhide KR) Try.underlying24 rfl sr ?_)
    refine (unhide C1 _).mono ?_
    rintro e w2 ⟨rfl, hb⟩
    have O2 := hide (((unhide O1).call hb).alloc (.cells X 27))
    clear hb O1 KR
    have KX := hide ((unhide O2).at w2.heap.size (.cells X 27) (by simp))
    go_wp2_with (refine wpList_load_row rfl 27 (.tmp 8) rfl w2.heap.size rfl _ _ _ _ (unhide KX) Try.underlying27 rfl sX ?_)
    refine (unhide CB _).mono ?_
    rintro e w4 ⟨rfl, hb⟩
    have O4 := hide (((unhide O2).call hb).alloc (.cells (iv .u8 bs) 31))
    have HL := hide (((unhide O2).call hb).lt)
    have HG : Hid (W.heap.size ≤ w4.heap.size) := ((unhide O2).call hb).below.size
    clear hb O2 KX nX
    have nB : ∀ (U : World) (C : Array Value), C.size = 64 → Sem.run Try.prog (storeCells ⟨U.heap.size, 0, none⟩ (iv .u8 bs).toList) (U.alloc (.cells C 31)) = .ok () (U.alloc (.cells (iv .u8 bs) 31)) :=
      fun U C hC => run_store_new _ _ rfl C _ _ (by rw [hC, iv_size, unhide BL]) (iv_one _ _)
    have zB : (iv .u8 bs).size = 64 := by rw [iv_size, unhide BL]
    go_upto_region 6 with fail
    clear nB zB
    have O5 := hide ((unhide O4).drew)
    clear O4
    generalize hV : w4.alloc (.cells (iv .u8 bs) 31) = V at *
    clear hV
    generalize w4.heap.size = g at *
    generalize hD : V.drew = D at O5
    have HD := hide hD
    clear hD
    obtain ⟨tv, htv⟩ : ∃ tv, tv = bs.getD p 0 := ⟨_, rfl⟩
    have tvb : 0 ≤ tv ∧ tv ≤ 255 := by rw [htv]; exact b8_get (unhide BB) _
    have KB := hide ((unhide O5).at g (.cells (iv .u8 bs) 31) (by simp))
    have cq : D.cell? ⟨g, p, none⟩ = some (.int .u8 tv) := by rw [cell_of_block (unhide KB), iv_get _ _ _ (by rw [unhide BL]; exact hp64), htv]
    have fq : D.frozen? ⟨g, p, none⟩ = false := unfrozen_of_block (unhide KB) _
    obtain ⟨z, hz⟩ : ∃ z : Nat, z = 1 + kb := ⟨_, rfl⟩
    have hz1 : z ≠ 0 := by omega
    have hz256 : z < 256 := by omega
    have HWR : Hid (IntKind.u8.wrap (IntKind.i64.wrap (1 + (kb : Int))) = (z : Int)) := by show _ = _; rw [hz]; exact wrap_small kb hb255
    have KT : Hid ((D.setCell ⟨g, p, none⟩ (.int .u8 (bits .xor .u8 tv (z : Int)))).heap[g]? = some (.cells (iv .u8 (bs.set p ((tv.toNat ^^^ z : Nat) : Int))) 31 (0, 0))) :=
      (block_setCell (unhide KB) _).trans (by rw [iv_set, xor_turn tv tvb z hz256])
    have O6 := hide (own_turn (unhide O5) (unhide HG) (fun q hq => unhide HL q hq) (unhide KT))
    have TB : Hid (Bytes8 (bs.set p ((tv.toNat ^^^ z : Nat) : Int))) := b8_set (unhide BB) _ _ (xor_bd tv tvb z hz256)
    have TL : Hid ((bs.set p ((tv.toNat ^^^ z : Nat) : Int)).length = 64) := by show _ = _; rw [List.length_set]; exact unhide BL
    have TG : Hid (isR (lineOf (bs.set p ((tv.toNat ^^^ z : Nat) : Int))) = false) := unhide HTn _ (xor_bd tv tvb z hz256) (by rw [← htv]; exact xor_other tv tvb.1 z hz1)
    have hpi : (p : Int) < 64 := by omega
    clear htv KB O5 KT HTn BB HL HG hz
    refine wp_region_noPanic ?_
    refine wp_region_held_drew (S := fun _ => True) (by kernel_rfl) trivial (fun hHeld => ?_)
    rw [unhide HD]
    clear HD
    refine take_at 0 24 (v := ?_) rfl rfl (by kernel_rfl) (by kernel_rfl) (by kernel_rfl) (Or.inl ⟨by rfl, ?_⟩) hHeld ?_
    rotate_left
    · intro w hSw; go_simp; with_reducible rfl
    simp only [Act.put, List.setIfInBounds_toArray, List.set_cons_zero, List.set_cons_succ]
    refine take_at 2 26 (v := ?_) rfl rfl (by kernel_rfl) (by kernel_rfl) (by kernel_rfl) (Or.inl ⟨by rfl, ?_⟩) hHeld ?_
    rotate_left
    · intro w hSw; go_simp; with_reducible rfl
    simp only [Act.put, List.setIfInBounds_toArray, List.set_cons_zero, List.set_cons_succ]
    refine take_at 6 30 (v := ?_) rfl rfl (by kernel_rfl) (by kernel_rfl) (by kernel_rfl) (Or.inl ⟨by rfl, ?_⟩) hHeld ?_
    rotate_left
    · intro w hSw; go_simp; with_reducible rfl
    simp only [Act.put, List.setIfInBounds_toArray, List.set_cons_zero, List.set_cons_succ]
    refine wpAnyH_ready (rs := [1]) (by kernel_rfl) (by simp) ?_
    refine AllReadyH.cons rfl (fun K hK => ?_) AllReadyH.nil
    go_simp
    refine (unhide CK1 _).mono ?_
    rintro e D ⟨rfl, rfl⟩
    go_wp2_with fail
    refine hK.out _ _ trivial (fun hNew => ?_)
    clear hK K hNew
    refine wpAnyH_ready (rs := [3]) (by kernel_rfl) (by simp) ?_
    refine AllReadyH.cons rfl (fun K hK => ?_) AllReadyH.nil
    go_simp
    refine (unhide CK1 _).mono ?_
    rintro e D ⟨rfl, rfl⟩
    go_wp2_with fail
    refine hK.out _ _ trivial (fun hNew => ?_)
    clear hK K hNew
    refine take_at 4 28 (v := ?_) rfl rfl (by kernel_rfl) (by kernel_rfl) (by kernel_rfl) (Or.inl ⟨by rfl, ?_⟩) hHeld ?_
    rotate_left
    · intro w hSw; go_simp; with_reducible rfl
    simp only [Act.put, List.setIfInBounds_toArray, List.set_cons_zero, List.set_cons_succ]
    refine wpAnyH_ready (rs := [5, 7]) (by kernel_rfl) (by simp) ?_
    refine AllReadyH.cons rfl (fun K hK => ?_) (AllReadyH.cons rfl (fun K hK => ?_) AllReadyH.nil)
    · go_simp
      refine hK.out _ _ trivial (fun hNew => ?_)
      clear hK K hNew
      refine wpAnyH_ready (rs := [7]) (by kernel_rfl) (by simp) ?_
      refine AllReadyH.cons rfl (fun K hK => ?_) AllReadyH.nil
      go_simp
      refine (unhide CK2 _).mono ?_
      rintro e D ⟨rfl, rfl⟩
      go_wp2_with fail
      refine hK.out _ _ trivial (fun hNew => ?_)
      clear hK K hNew
      refine take_at 8 32 (v := ?_) rfl rfl (by kernel_rfl) (by kernel_rfl) (by kernel_rfl) (Or.inl ⟨by rfl, ?_⟩) hHeld ?_
      rotate_left
      · intro w hSw; go_simp; with_reducible rfl
      simp only [Act.put, List.setIfInBounds_toArray, List.set_cons_zero, List.set_cons_succ]
      refine take_at 9 33 (v := ?_) rfl rfl (by kernel_rfl) (by kernel_rfl) (by kernel_rfl) (Or.inl ⟨by rfl, ?_⟩) hHeld ?_
      rotate_left
      · intro w hSw; go_simp; with_reducible rfl
      simp only [Act.put, List.setIfInBounds_toArray, List.set_cons_zero, List.set_cons_succ]
      rw [unhide HWR]
      refine take_at 10 34 (v := ?_) rfl rfl (by kernel_rfl) (by kernel_rfl) (by kernel_rfl) (Or.inl ⟨by rfl, ?_⟩) hHeld ?_
      rotate_left
      · intro w hSw; go_simp; with_reducible rfl
      simp only [Act.put, List.setIfInBounds_toArray, List.set_cons_zero, List.set_cons_succ]
      refine take_at 11 35 (v := ?_) rfl rfl (by kernel_rfl) (by kernel_rfl) (by kernel_rfl) (Or.inl ⟨by rfl, ?_⟩) hHeld ?_
      rotate_left
      · intro w hSw; go_simp; with_reducible rfl
      simp only [Act.put, List.setIfInBounds_toArray, List.set_cons_zero, List.set_cons_succ]
      refine wpAnyH_ready (rs := [12]) (by kernel_rfl) (by simp) ?_
      refine AllReadyH.cons rfl (fun K hK => ?_) AllReadyH.nil
      go_simp
      refine hK.out _ _ trivial (fun hNew => ?_)
      clear hK K hNew hHeld
      refine wpAnyH_done (by kernel_rfl) ?_ _
      refine NoPanic.normal ?_
      clear cq fq tvb HWR
      generalize D.setCell ⟨g, p, none⟩ (.int .u8 (bits .xor .u8 tv (z : Int))) = F at *
      generalize bs.set p ((tv.toNat ^^^ z : Nat) : Int) = ts at *
      have tw : ∀ y ∈ ts, (Lit.int .u8 y).wf = true := fun y hy => by
        have := unhide TB y hy
        simp [Lit.wf, IntKind.min, IntKind.max, IntKind.signed, IntKind.bits]; omega
      have lw : ∀ y ∈ lineOf ts, (Lit.int .u64 y).wf = true := fun y hy => by
        have := lineOf_bd ts (fun n => b8_get (unhide TB) n) y hy
        simp [Lit.wf, IntKind.min, IntKind.max, IntKind.signed, IntKind.bits]; omega
      have CO : Hid (∀ w : World, Calls Try.prog 10 #[.agg (iv .u8 ts)] w fun e w' => e = .returned (.agg (iv .u64 (lineOf ts))) ∧ Below w.heap.size w w') := fun w => ofBytes_any ts (unhide TL) tw w
      have CD : Hid (∀ w : World, Calls Try.prog 9 #[.agg (iv .u64 (lineOf ts))] w fun e w' => e = .returned (.tuple #[.agg (rv (readRV (lineOf ts))), .bool false]) ∧ Below w.heap.size w w') := fun w => by
        rw [← unhide TG]; exact readR_any (lineOf ts) (lineOf_len _) lw w
      have s64 : (Try.prog.info? 31).map (·.size) = some (iv .u8 ts).size := by rw [iv_size, unhide TL]; exact size64
      have nR := rv_new (readRV (lineOf ts)) 24
      have zR := rv_size (readRV (lineOf ts))
      clear tw lw
      have KT := hide ((unhide O6).at g (.cells (iv .u8 ts) 31) (by simp))
      generalize iv .u8 ts = TS at *
      generalize rv (readRV (lineOf ts)) = RV at *
      generalize iv .u64 (lineOf ts) = LT at *
      clear TB TL TG
      go_wp2_with (refine wpList_load_row rfl 31 _ rfl g rfl _ _ _ _ (unhide KT) Try.underlying31 rfl s64 ?_)
      refine (unhide CO _).mono ?_
      rintro e w6 ⟨rfl, hb⟩
      have O7 := hide ((unhide O6).call hb)
      clear hb KT O6 CO
      go_wp2_with fail
      refine (unhide CD _).mono ?_
      rintro e w7 ⟨rfl, hb⟩
      have O8 := hide (((unhide O7).call hb).alloc (.cells RV 24))
      clear hb O7 CD
      go_wp2_with fail
      go_ret
      exact ⟨rfl, (unhide O8).below⟩
    · go_simp
      refine (unhide CK2 _).mono ?_
      rintro e D ⟨rfl, rfl⟩
      go_wp2_with fail
      refine hK.out _ _ trivial (fun hNew => ?_)
      clear hK K hNew
      refine take_at 8 32 (v := ?_) rfl rfl (by kernel_rfl) (by kernel_rfl) (by kernel_rfl) (Or.inl ⟨by rfl, ?_⟩) hHeld ?_
      rotate_left
      · intro w hSw; go_simp; with_reducible rfl
      simp only [Act.put, List.setIfInBounds_toArray, List.set_cons_zero, List.set_cons_succ]
      refine take_at 9 33 (v := ?_) rfl rfl (by kernel_rfl) (by kernel_rfl) (by kernel_rfl) (Or.inl ⟨by rfl, ?_⟩) hHeld ?_
      rotate_left
      · intro w hSw; go_simp; with_reducible rfl
      simp only [Act.put, List.setIfInBounds_toArray, List.set_cons_zero, List.set_cons_succ]
      rw [unhide HWR]
      refine wpAnyH_ready (rs := [5]) (by kernel_rfl) (by simp) ?_
      refine AllReadyH.cons rfl (fun K hK => ?_) AllReadyH.nil
      go_simp
      refine hK.out _ _ trivial (fun hNew => ?_)
      clear hK K hNew
      refine take_at 10 34 (v := ?_) rfl rfl (by kernel_rfl) (by kernel_rfl) (by kernel_rfl) (Or.inl ⟨by rfl, ?_⟩) hHeld ?_
      rotate_left
      · intro w hSw; go_simp; with_reducible rfl
      simp only [Act.put, List.setIfInBounds_toArray, List.set_cons_zero, List.set_cons_succ]
      refine take_at 11 35 (v := ?_) rfl rfl (by kernel_rfl) (by kernel_rfl) (by kernel_rfl) (Or.inl ⟨by rfl, ?_⟩) hHeld ?_
      rotate_left
      · intro w hSw; go_simp; with_reducible rfl
      simp only [Act.put, List.setIfInBounds_toArray, List.set_cons_zero, List.set_cons_succ]
      refine wpAnyH_ready (rs := [12]) (by kernel_rfl) (by simp) ?_
      refine AllReadyH.cons rfl (fun K hK => ?_) AllReadyH.nil
      go_simp
      refine hK.out _ _ trivial (fun hNew => ?_)
      clear hK K hNew hHeld
      refine wpAnyH_done (by kernel_rfl) ?_ _
      refine NoPanic.normal ?_
      clear cq fq tvb HWR
      generalize D.setCell ⟨g, p, none⟩ (.int .u8 (bits .xor .u8 tv (z : Int))) = F at *
      generalize bs.set p ((tv.toNat ^^^ z : Nat) : Int) = ts at *
      have tw : ∀ y ∈ ts, (Lit.int .u8 y).wf = true := fun y hy => by
        have := unhide TB y hy
        simp [Lit.wf, IntKind.min, IntKind.max, IntKind.signed, IntKind.bits]; omega
      have lw : ∀ y ∈ lineOf ts, (Lit.int .u64 y).wf = true := fun y hy => by
        have := lineOf_bd ts (fun n => b8_get (unhide TB) n) y hy
        simp [Lit.wf, IntKind.min, IntKind.max, IntKind.signed, IntKind.bits]; omega
      have CO : Hid (∀ w : World, Calls Try.prog 10 #[.agg (iv .u8 ts)] w fun e w' => e = .returned (.agg (iv .u64 (lineOf ts))) ∧ Below w.heap.size w w') := fun w => ofBytes_any ts (unhide TL) tw w
      have CD : Hid (∀ w : World, Calls Try.prog 9 #[.agg (iv .u64 (lineOf ts))] w fun e w' => e = .returned (.tuple #[.agg (rv (readRV (lineOf ts))), .bool false]) ∧ Below w.heap.size w w') := fun w => by
        rw [← unhide TG]; exact readR_any (lineOf ts) (lineOf_len _) lw w
      have s64 : (Try.prog.info? 31).map (·.size) = some (iv .u8 ts).size := by rw [iv_size, unhide TL]; exact size64
      have nR := rv_new (readRV (lineOf ts)) 24
      have zR := rv_size (readRV (lineOf ts))
      clear tw lw
      have KT := hide ((unhide O6).at g (.cells (iv .u8 ts) 31) (by simp))
      generalize iv .u8 ts = TS at *
      generalize rv (readRV (lineOf ts)) = RV at *
      generalize iv .u64 (lineOf ts) = LT at *
      clear TB TL TG
      go_wp2_with (refine wpList_load_row rfl 31 _ rfl g rfl _ _ _ _ (unhide KT) Try.underlying31 rfl s64 ?_)
      refine (unhide CO _).mono ?_
      rintro e w6 ⟨rfl, hb⟩
      have O7 := hide ((unhide O6).call hb)
      clear hb KT O6 CO
      go_wp2_with fail
      refine (unhide CD _).mono ?_
      rintro e w7 ⟨rfl, hb⟩
      have O8 := hide (((unhide O7).call hb).alloc (.cells RV 24))
      clear hb O7 CD
      go_wp2_with fail
      go_ret
      exact ⟨rfl, (unhide O8).below⟩

set_option maxRecDepth 100000 in
theorem lifted (os : Os) (started : os.Started) (H : Type) (enc : TypeId × Value → H) :
    ReturnsInHanded {} Try.checked os 3 .any (Rows.rlogSpoiltSpec.pre6 enc Try.prog Try.f3 Rows.rlogSpoiltRow.domain false) (Rows.rlogSpoiltSpec.post enc Try.prog Try.f3 false true false false) := by
  refine law_frame (C := Try.checked) (ts := [24, 3, 3]) (tb := 4) (by kernel_rfl) started (by kernel_rfl) Try.func3 Try.params3 (by kernel_rfl) Try.underlying4 (by kernel_rfl) (by kernel_rfl) rfl ?_
    (ChangeSpec.witness6 (enc := enc) (C := Try.checked) false ⟨#[], #[.agg (rv zr), .int .i64 0, .int .i64 0], []⟩ 8 (by kernel_rfl) (by kernel_rfl) (by kernel_rfl) (by kernel_rfl)) ?_
  · intro ds hd
    match ds, hd with
    | [d0, d1, d2], _ => rfl
  · intro W base args ds p hval hA
    obtain ⟨v0, vs0, d0, ds0, p0, q0, hargs, rfl, rfl, h0, r0⟩ := trodAll_cons hA
    obtain ⟨v1, vs1, d1, ds1, p1, q1, rfl, rfl, rfl, h1, r1⟩ := trodAll_cons r0
    obtain ⟨v2, vs2, d2, ds2, p2, q2, rfl, rfl, rfl, h2, r2⟩ := trodAll_cons r1
    obtain ⟨rfl, rfl, rfl⟩ := trodAll_nil r2
    obtain rfl : args = #[v0, v1, v2] := by cases args; simp_all
    obtain ⟨s, rfl, hs⟩ := open_rec (hval 0 24 v0 rfl rfl) h0
    obtain ⟨x, rfl, rfl, rfl, wx⟩ := open_int Try.underlying3 (hval 1 3 v1 rfl rfl) h1
    obtain ⟨y, rfl, rfl, rfl, wy⟩ := open_int Try.underlying3 (hval 2 3 v2 rfl rfl) h2
    exact walk s x y hs wx wy W

theorem over : Rows.rlogSpoiltRow.holds Try.pinned (OpenSpec.ofChange Rows.rlogSpoiltSpec) :=
  OpenClaim.holds_of_wide 3 Try.f3 rfl rfl rfl rfl rfl rfl rfl ⟨rfl, rfl, rfl, rfl, rfl⟩ rfl rfl rfl rfl rfl (by kernel_rfl) Try.func3 (by kernel_rfl)
    (of_decide_eq_true (by kernel_rfl)) (by unfold Func.isWrapper; first | (rw [if_pos (by decide +kernel)]; kernel_rfl) | (rw [if_neg (by decide +kernel)]; exact ⟨rfl, rfl⟩))
    (fun os started H enc _ => lifted os started H enc)

end Go.Proofs.Ytjidekjeibdbgab.rlogSpoilt
namespace Go.Proofs.Ytjidekjeibdbgab
theorem rlogSpoilt_holds : Rows.RlogSpoiltSaid := rlogSpoilt.over
end Go.Proofs.Ytjidekjeibdbgab
