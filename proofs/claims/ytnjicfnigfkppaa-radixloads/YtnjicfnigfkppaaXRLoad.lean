
/-
  The document's Load: what it returns, for whatever memory, line and root; nothing that was there turns.
-/
import Derived.Test.YtnjicfnigfkppaaXRowSt
namespace Go.Proofs.Ytnjicfnigfkppaa
open Go.ChangeShapes Go.WideShapes Go.ChangeAt Go.RowKit Go.Joins
set_option maxRecDepth 10000
set_option linter.unusedVariables false
set_option linter.unusedSimpArgs false

def rowZ (A : Mm) (z : Int) : List Int := (List.range 8).map (A.hasZ z)
theorem rowZ_len (A : Mm) (z : Int) : (rowZ A z).length = 8 := by simp [rowZ]
theorem rowZ_iv (A : Mm) (z : Int) : lnV (A.hasZ z) = iv .u64 (rowZ A z) := tab_iv .u64 8 _
theorem rowZ_in (A : Mm) (z : Int) (h0 : 0 ≤ z) (h1 : z < A.n) (hon : A.on = true) : rowZ A z = lineA A z.toNat ∧ A.loadE z = 0 := by
  have hz : A.isZ z := ⟨h0, h1⟩
  unfold rowZ Mm.hasZ Mm.loadE
  rw [if_pos ⟨hz, hon⟩, if_pos hz, if_pos hon]
  exact ⟨rfl, rfl⟩
theorem rowZ_out (A : Mm) (z : Int) (h : ¬ (0 ≤ z ∧ z < A.n)) : A.loadE z = 1 := by
  unfold Mm.loadE
  rw [if_neg (fun hz : A.isZ z => h hz)]
theorem rowZ_wf (A : Mm) (z : Int) (hok : ∀ i, (A.l i).ok) : ∀ y ∈ rowZ A z, (Lit.int .u64 y).wf = true := fun y hy => by
  by_cases h : A.isZ z ∧ A.on = true
  · have := (rowZ_in A z h.1.1 h.1.2 h.2).1
    rw [this] at hy
    exact lineA_wf A _ (hok _) y hy
  · unfold rowZ Mm.hasZ at hy
    rw [if_neg h, List.mem_map] at hy
    obtain ⟨j, -, rfl⟩ := hy
    decide
theorem rowSt_head {W w w' : World} {v : Value} {zs : List Int} {L : List (Nat × Obj)} {g : Nat} {o o' : Obj} (h : RowSt W w v zs ((g, o) :: L)) (hL : ∀ p ∈ L, p.1 ≠ g) (hk : Keeps (· = g) w w') (ho : w'.heap[g]? = some o') : RowSt W w' v zs ((g, o') :: L) :=
  (h.turn g o o' (List.mem_cons_self ..) hk ho).less fun p hp => by
    rcases List.mem_cons.1 hp with rfl | hp
    · exact List.mem_cons_self ..
    · exact List.mem_cons_of_mem _ (List.mem_filter.2 ⟨List.mem_cons_of_mem _ hp, by simpa using hL p hp⟩)
theorem RowSt.out {w wr : World} {v : Value} {zs : List Int} {L : List (Nat × Obj)} (h : RowSt w wr v zs L) (gA gB : Nat) (VA VB X Y : List Int) (hX : X.length = 147) (hY : Y.length = 7) (m0 : (w.heap.size, .cells (iv .i64 X) 24) ∈ L) (m1 : (w.heap.size + 1, .cells (iv .i64 Y) 37) ∈ L)
    (mA : (gA, .cells (iv .i64 VA) 24) ∈ L) (mB : (gB, .cells (iv .i64 VB) 37) ∈ L) : OutS w gA gB VA VB wr :=
  ⟨h.1, ⟨_, h.at _ _ m0, by rw [iv_size, hX]⟩, ⟨_, h.at _ _ m1, by rw [iv_size, hY]⟩, h.at _ _ mA, h.at _ _ mB⟩

theorem rowX_form {w : World} {base : Nat} {v : Value} {zs : List Int} (h : RowX base v zs w) : ∃ a cap, v = .slice a zs.length cap := by
  rcases h.2 with ⟨rfl, h'⟩ | ⟨g, cap, cur, rfl, h1⟩
  · exact ⟨_, _, by rw [h']⟩
  · exact ⟨_, _, rfl⟩
theorem rowX_at {w : World} {base n cap : Nat} {a : Option Addr} {zs : List Int} (h : RowX base (.slice a n cap) zs w) (hz : 0 < zs.length) : ∃ g, a = some ⟨g, 0, none⟩ ∧ ∀ i, i < zs.length → w.cell? ⟨g, i, none⟩ = some (.int .i64 (zs.getD i 0)) := by
  obtain ⟨g, cap', h1, -, h3, h4⟩ := h.cell (by intro e; rw [e] at hz; simp at hz)
  simp only [Value.slice.injEq] at h1
  exact ⟨g, h1.1, h4⟩

set_option maxHeartbeats 16000000 in
theorem rxload_any {w : World} {F : Nat → Prop} {b gs cs gl : Nat} {A : Mm} {ads : Nat → Option Nat} {caps : Nat → Nat} (h : RRep w F b A gs cs gl ads caps) (hok : A.ok 1000) (fr root : Int) :
    Calls Try.prog 23 #[.pointer (some ⟨b, 0, none⟩), .int .i64 fr, .int .i64 root] w (LdPost w (ldT A fr root) (ldL A fr root) (ldE A fr root)) := by
  obtain ⟨W1, hW1⟩ : ∃ W1, W1 = (((w.alloc (.cells (iv .i64 (zrow 49)) 24)).alloc (.cells (iv .i64 zs7) 37)).alloc (.cells (iv .i64 (zrow 49)) 24)).alloc (.cells (iv .i64 zs7) 37) := ⟨_, rfl⟩
  have HK1 : Hid (Keeps (fun _ => False) w W1) := by rw [hW1]; exact ((((Keeps.refl _ w).alloc _).alloc _).alloc _).alloc _
  have G4 := heap4 w (.cells (iv .i64 (zrow 49)) 24) (.cells (iv .i64 zs7) 37) (.cells (iv .i64 (zrow 49)) 24) (.cells (iv .i64 zs7) 37)
  rw [← hW1] at G4
  have GG := hide G4
  have HSZ : Hid (W1.heap.size = w.heap.size + 1 + 1 + 1 + 1) := by show _ = _; rw [hW1]; simp
  have HW1 := hide hW1
  have n147 := iv_newg .i64 (zrow 49) 24 147 (zrow_len 49)
  have n7 := iv_newg .i64 zs7 37 7 rfl
  have HH := hide h
  have HLK := hide hok.2.2.1
  have HOK := hide hok
  have lVA : (zrow 49).length = 147 := zrow_len 49
  have lVB : zs7.length = 7 := rfl
  have lRA : (zrow 49).length = 147 := zrow_len 49
  have HNO : Hid (loadB A fr root = false → A.on = true → ldT A fr root = zrow 49 ∧ ldL A fr root = zs7 ∧ ldE A fr root = 21) := fun e e2 => by unfold ldT ldL ldE; rw [e, e2]; simp
  clear h hW1 G4 hok
  go_enter Try.func23, Try.ntmps23
  go_upto_region 3 with (first | (refine wpList_build0 rfl 24 rfl _ build147o ?_) | (refine wpList_build0 rfl 37 rfl _ build7x ?_))
  rw [zero147o, zero7, ← unhide HW1]
  clear HW1 n147 n7
  have R1 := hide ((unhide HH).keeps (unhide HK1) (fun _ _ => id))
  have c2 := (unhide R1).c2
  have hsz := unhide HSZ
  cases hon : A.on with
  | false =>
    rw [hon] at c2
    have HV : Hid (ldT A fr root = zrow 49 ∧ ldL A fr root = zs7 ∧ ldE A fr root = 4) := by show _ ∧ _; unfold ldT ldL ldE; rw [hon]; simp
    have HOUT : Hid (OutS w (w.heap.size + 1 + 1) (w.heap.size + 1 + 1 + 1) (zrow 49) zs7 W1) := ⟨unhide HK1, ⟨_, (unhide GG).1, by rw [iv_size, zrow_len]⟩, ⟨_, (unhide GG).2.1, rfl⟩, (unhide GG).2.2.1, (unhide GG).2.2.2⟩
    clear hon HNO GG
    have sA147 : (Try.prog.info? 24).map (·.size) = some (iv .i64 ((zrow 49))).toList.length := by rw [Array.length_toList]; exact s147o_of _ lVA
    have sB7 : (Try.prog.info? 37).map (·.size) = some (iv .i64 (zs7)).toList.length := by rw [Array.length_toList]; exact s7_of _ lVB
    go_wp2_with fail
    refine wp_region_noPanic ?_
    refine wp_region_held_drew (S := OutS w (w.heap.size + 1 + 1) (w.heap.size + 1 + 1 + 1) (zrow 49) zs7) (by kernel_rfl) (OutS.drew (unhide HOUT)) (fun hHeld => ?_)
    clear HOUT
    refine take_at 0 29 rfl rfl (by kernel_rfl) (by kernel_rfl) (by kernel_rfl) (yieldsIf_load_mid (by rfl) 24 _ rfl (w.heap.size + 1 + 1) 0 rfl (iv .i64 ((zrow 49))).toList _ (fun w' h => OutS.rA h) Try.underlying24 rfl sA147) hHeld ?_
    simp only [Act.put, List.setIfInBounds_toArray, List.set_cons_zero, List.set_cons_succ]
    refine take_at 1 30 rfl rfl (by kernel_rfl) (by kernel_rfl) (by kernel_rfl) (yieldsIf_load_mid (by rfl) 37 _ rfl (w.heap.size + 1 + 1 + 1) 0 rfl (iv .i64 zs7).toList _ (fun w' h => OutS.rB h) Try.underlying37 rfl sB7) hHeld ?_
    simp only [Act.put, List.setIfInBounds_toArray, List.set_cons_zero, List.set_cons_succ]
    obtain ⟨X0, x1, x2⟩ := hHeld.2.1
    refine wpAnyH_ready (rs := [2]) (by kernel_rfl) (by simp) ?_
    refine AllReadyH.cons rfl (fun K hK => ?_) AllReadyH.nil
    refine (if_pos (by rfl)).mpr ?_
    refine wp_store_row 24 (.tmp 6) (.tmp 29) rfl w.heap.size (iv .i64 (zrow 49)) rfl rfl _ _ x1 (s147o_of _ lRA) (by rw [x2, iv_size, lRA]) (iv_one _ _) ?_
    refine hK.out _ _ (hHeld.one (by omega) (by omega) _ (by rw [iv_size, lRA])) (fun hNew => ?_)
    have KA := hide (setRow_heap _ _ _ (iv .i64 (zrow 49)) _ _ x1)
    clear hK K hHeld x1 x2
    obtain ⟨Y0, y1, y2⟩ := hNew.2.2.1
    refine wpAnyH_ready (rs := [3]) (by kernel_rfl) (by simp) ?_
    refine AllReadyH.cons rfl (fun K hK => ?_) AllReadyH.nil
    refine (if_pos (by rfl)).mpr ?_
    refine wp_store_row 37 (.tmp 7) (.tmp 30) rfl (w.heap.size + 1) (iv .i64 (zs7)) rfl rfl _ _ y1 (s7_of _ lVB) (by rw [y2, iv_size, lVB]) (iv_one _ _) ?_
    refine hK.out _ _ (hNew.two (by omega) (by omega) _ (by rw [iv_size, lVB])) (fun hHeld => ?_)
    have KB := hide (setRow_heap _ _ _ (iv .i64 (zs7)) _ _ y1)
    have KA2 := hide ((setRow_other _ (w.heap.size + 1) w.heap.size (iv .i64 (zs7)) (by omega)).trans (unhide KA))
    clear hK K hNew y1 y2 KA
    refine take_at 4 8 (v := ?_) rfl rfl (by kernel_rfl) (by kernel_rfl) (by kernel_rfl) (Or.inl ⟨by rfl, ?_⟩) hHeld ?_
    rotate_left
    · intro w hSw; go_simp; with_reducible rfl
    simp only [Act.put, List.setIfInBounds_toArray, List.set_cons_zero, List.set_cons_succ]
    refine wpAnyH_done (by kernel_rfl) ?_ _
    refine NoPanic.normal ?_
    have HF := hide hHeld.1
    clear hHeld
    go_wp2_with fail
    refine bodyPost_ret (v := .tuple #[.agg (iv .i64 (zrow 49)), .agg (iv .i64 (zs7)), .int .i64 4]) (results_three Try.results23 _ _ w.heap.size (w.heap.size + 1) 24 37 (iv .i64 (zrow 49)) (iv .i64 (zs7)) (0, 0) (0, 0) _ _ _ rfl rfl rfl (unhide KA2) (unhide KB) Try.underlying24 rfl (s147o_of _ lRA) Try.underlying37 rfl (s7_of _ lVB)) rfl ?_
    exact ⟨by rw [(unhide HV).1, (unhide HV).2.1, (unhide HV).2.2], unhide HF⟩
  | true =>
    rw [hon] at c2
    have HON := hide hon
    have RS0 := hide (rowSt_start (L := [(w.heap.size + 1 + 1, .cells (iv .i64 (zrow 49)) 24), (w.heap.size, .cells (iv .i64 (zrow 49)) 24), (w.heap.size + 1, .cells (iv .i64 zs7) 37), (w.heap.size + 1 + 1 + 1, .cells (iv .i64 zs7) 37)]) (unhide HK1) (by
      intro p hp
      simp only [List.mem_cons, List.not_mem_nil, or_false] at hp
      obtain ⟨a1, a2, a3, a4⟩ := unhide GG
      rcases hp with rfl | rfl | rfl | rfl
      · exact ⟨a3, by simp; omega⟩
      · exact ⟨a1, by simp⟩
      · exact ⟨a2, by simp⟩
      · exact ⟨a4, by simp; omega⟩) root)
    clear GG
    go_upto_region 6 with fail
    obtain ⟨W2, hW2⟩ : ∃ W2, W2 = W1.alloc (.cells #[.int .i64 root] 3) := ⟨_, rfl⟩
    rw [← hW2] at RS0
    rw [← hW2]
    rw [hsz] at RS0
    have hW2s : W2.heap.size = w.heap.size + 1 + 1 + 1 + 1 + 1 := by rw [hW2]; simp [hsz]
    clear hW2 c2 R1 HK1 hsz
    have CL := hide (rload_any ((unhide HH).keeps (unhide RS0).kp (fun _ _ => id)) (unhide HOK) root)
    rw [rowZ_iv] at CL
    have n8 := iv_newx .u64 (rowZ A root) 27 8 (rowZ_len _ _)
    have z8 : (iv .u64 (rowZ A root)).size = 8 := by rw [iv_size, rowZ_len]
    have s8 := s8_of (rowZ A root) (rowZ_len _ _)
    have CR := hide (rreadRoot_any (rowZ A root) (rowZ_len _ _) (rowZ_wf A root (unhide HLK)))
    have n7 := iv_newx .i64 (readTV (rowZ A root)) 37 7 (readTV_len _)
    have z7 : (iv .i64 (readTV (rowZ A root))).size = 7 := by rw [iv_size, readTV_len]
    go_wp2_with fail
    refine (unhide CL).mono ?_
    rintro e w3 ⟨rfl, hk3⟩
    have RS1 := hide (((unhide RS0).keeps hk3).alloc (.cells (iv .u64 (rowZ A root)) 27))
    have hge12 := hk3.size
    rw [hW2s] at hge12
    clear hk3 CL RS0
    have K12 := hide (heap_new w3 (.cells (iv .u64 (rowZ A root)) 27))
    go_wp2_with (with_reducible refine wpList_load_row (by with_unfolding_all rfl) 27 _ (by with_unfolding_all rfl) w3.heap.size (by with_unfolding_all rfl) _ _ _ _ (unhide K12) Try.underlying27 (by with_unfolding_all rfl) s8 ?_)
    refine (unhide CR _).mono ?_
    rintro e w4 ⟨rfl, hb4⟩
    have RS2 := hide (((unhide RS1).below hb4).alloc (.cells (iv .i64 (readTV (rowZ A root))) 37))
    have hge14 : w3.heap.size + 1 ≤ w4.heap.size := by have := hb4.size; simpa using this
    clear hb4 CR RS1 K12 s8
    go_upto_region 8 with fail
    clear n8 z8 n7 z7
    obtain ⟨W4, hW4⟩ : ∃ W4, W4 = w4.alloc (.cells (iv .i64 (readTV (rowZ A root))) 37) := ⟨_, rfl⟩
    rw [← hW4] at RS2
    rw [← hW4]
    have hlt12 : w3.heap.size < W4.heap.size := (unhide RS2).lt (w3.heap.size, .cells (iv .u64 (rowZ A root)) 27) (by simp)
    have hlt14 : w4.heap.size < W4.heap.size := (unhide RS2).lt (w4.heap.size, .cells (iv .i64 (readTV (rowZ A root))) 37) (by simp)
    obtain ⟨B12, hB12⟩ : ∃ B12, B12 = w3.heap.size := ⟨_, rfl⟩
    obtain ⟨B14, hB14⟩ : ∃ B14, B14 = w4.heap.size := ⟨_, rfl⟩
    rw [← hB12, ← hB14] at RS2
    rw [← hB12, ← hB14]
    rw [← hB12] at hlt12 hge12 hge14
    rw [← hB14] at hlt14 hge14
    clear hW4 hB12 hB14
    have HOUT1 : Hid (OutS w (w.heap.size + 1 + 1) (w.heap.size + 1 + 1 + 1) (zrow 49) zs7 W4) := (unhide RS2).out _ _ _ _ (zrow 49) zs7 (zrow_len 49) rfl (by simp) (by simp) (by simp) (by simp)
    by_cases hr : 0 ≤ root ∧ root < A.n
    · obtain ⟨e1, e2⟩ := rowZ_in A root hr.1 hr.2 hon
      rw [e2]
      rw [e1] at RS2
      rw [e1]
      clear e1 e2
      cases hi : isT (lineA A root.toNat) with
      | false =>
        have hlb : loadB A fr root = false := bool_not fun hh => by have := ((loadB_iff A fr root).1 hh).1.2; rw [hi] at this; cases this
        have HV := hide (unhide HNO hlb hon)
        have HOUT := HOUT1
        clear hlb hi hon HNO HOUT1 RS2
        have sA147 : (Try.prog.info? 24).map (·.size) = some (iv .i64 ((zrow 49))).toList.length := by rw [Array.length_toList]; exact s147o_of _ lVA
        have sB7 : (Try.prog.info? 37).map (·.size) = some (iv .i64 (zs7)).toList.length := by rw [Array.length_toList]; exact s7_of _ lVB
        go_wp2_with fail
        refine wp_region_noPanic ?_
        refine wp_region_held_drew (S := OutS w (w.heap.size + 1 + 1) (w.heap.size + 1 + 1 + 1) (zrow 49) zs7) (by kernel_rfl) (OutS.drew (unhide HOUT)) (fun hHeld => ?_)
        clear HOUT
        refine take_at 0 50 rfl rfl (by kernel_rfl) (by kernel_rfl) (by kernel_rfl) (yieldsIf_load_mid (by rfl) 24 _ rfl (w.heap.size + 1 + 1) 0 rfl (iv .i64 ((zrow 49))).toList _ (fun w' h => OutS.rA h) Try.underlying24 rfl sA147) hHeld ?_
        simp only [Act.put, List.setIfInBounds_toArray, List.set_cons_zero, List.set_cons_succ]
        refine take_at 1 51 rfl rfl (by kernel_rfl) (by kernel_rfl) (by kernel_rfl) (yieldsIf_load_mid (by rfl) 37 _ rfl (w.heap.size + 1 + 1 + 1) 0 rfl (iv .i64 zs7).toList _ (fun w' h => OutS.rB h) Try.underlying37 rfl sB7) hHeld ?_
        simp only [Act.put, List.setIfInBounds_toArray, List.set_cons_zero, List.set_cons_succ]
        obtain ⟨X0, x1, x2⟩ := hHeld.2.1
        refine wpAnyH_ready (rs := [2]) (by kernel_rfl) (by simp) ?_
        refine AllReadyH.cons rfl (fun K hK => ?_) AllReadyH.nil
        refine (if_pos (by rfl)).mpr ?_
        refine wp_store_row 24 (.tmp 6) (.tmp 50) rfl w.heap.size (iv .i64 (zrow 49)) rfl rfl _ _ x1 (s147o_of _ lRA) (by rw [x2, iv_size, lRA]) (iv_one _ _) ?_
        refine hK.out _ _ (hHeld.one (by omega) (by omega) _ (by rw [iv_size, lRA])) (fun hNew => ?_)
        have KA := hide (setRow_heap _ _ _ (iv .i64 (zrow 49)) _ _ x1)
        clear hK K hHeld x1 x2
        obtain ⟨Y0, y1, y2⟩ := hNew.2.2.1
        refine wpAnyH_ready (rs := [3]) (by kernel_rfl) (by simp) ?_
        refine AllReadyH.cons rfl (fun K hK => ?_) AllReadyH.nil
        refine (if_pos (by rfl)).mpr ?_
        refine wp_store_row 37 (.tmp 7) (.tmp 51) rfl (w.heap.size + 1) (iv .i64 (zs7)) rfl rfl _ _ y1 (s7_of _ lVB) (by rw [y2, iv_size, lVB]) (iv_one _ _) ?_
        refine hK.out _ _ (hNew.two (by omega) (by omega) _ (by rw [iv_size, lVB])) (fun hHeld => ?_)
        have KB := hide (setRow_heap _ _ _ (iv .i64 (zs7)) _ _ y1)
        have KA2 := hide ((setRow_other _ (w.heap.size + 1) w.heap.size (iv .i64 (zs7)) (by omega)).trans (unhide KA))
        clear hK K hNew y1 y2 KA
        refine take_at 4 8 (v := ?_) rfl rfl (by kernel_rfl) (by kernel_rfl) (by kernel_rfl) (Or.inl ⟨by rfl, ?_⟩) hHeld ?_
        rotate_left
        · intro w hSw; go_simp; with_reducible rfl
        simp only [Act.put, List.setIfInBounds_toArray, List.set_cons_zero, List.set_cons_succ]
        refine wpAnyH_done (by kernel_rfl) ?_ _
        refine NoPanic.normal ?_
        have HF := hide hHeld.1
        clear hHeld
        go_wp2_with fail
        refine bodyPost_ret (v := .tuple #[.agg (iv .i64 (zrow 49)), .agg (iv .i64 (zs7)), .int .i64 21]) (results_three Try.results23 _ _ w.heap.size (w.heap.size + 1) 24 37 (iv .i64 (zrow 49)) (iv .i64 (zs7)) (0, 0) (0, 0) _ _ _ rfl rfl rfl (unhide KA2) (unhide KB) Try.underlying24 rfl (s147o_of _ lRA) Try.underlying37 rfl (s7_of _ lVB)) rfl ?_
        exact ⟨by rw [(unhide HV).1, (unhide HV).2.1, (unhide HV).2.2], unhide HF⟩
      | true =>
        have hrt : readTV (lineA A root.toNat) = lsA A root := by unfold readTV lsA; rw [if_pos hi]
        rw [hrt] at RS2
        have HI := hide hi
        have HR0 := hide hr
        have HT0 : Hid (rowE 49 (upTo (tabF A root) (7 * 0)) = zrow 49) := upTo_zero 49 _
        have HLS : Hid (∀ j, j < 7 → (iv .i64 (lsA A root))[j]? = some (.int .i64 ((lsA A root).getD j 0))) := fun j hj => iv_get _ _ _ (by rw [lsA_len]; exact hj)
        have RS3 : Hid (RowSt w W4 (.slice (some ⟨w.heap.size + 1 + 1 + 1 + 1, 0, none⟩) 1 1) (nsTo A root 0) [(w.heap.size + 1 + 1, .cells (iv .i64 (rowE 49 (upTo (tabF A root) (7 * 0)))) 24), (B12, .cells (iv .u64 (lineA A root.toNat)) 27), (w.heap.size, .cells (iv .i64 (zrow 49)) 24), (w.heap.size + 1, .cells (iv .i64 zs7) 37), (w.heap.size + 1 + 1 + 1, .cells (iv .i64 zs7) 37), (B14, .cells (iv .i64 (lsA A root)) 37)]) := by
          show RowSt _ _ _ _ _
          rw [unhide HT0]
          exact (unhide RS2).less (by intro p hp; simp only [List.mem_cons, List.not_mem_nil, or_false] at hp ⊢; rcases hp with rfl | rfl | rfl | rfl | rfl | rfl <;> simp)
        have CLD : Hid (∀ (z : Int) (w1 : World), Keeps (fun _ => False) w w1 → Calls Try.prog 37 #[.pointer (some ⟨b, 0, none⟩), .int .i64 z] w1 (RLoaded w1 (.tuple #[.agg (iv .u64 (rowZ A z)), .int .i64 (A.loadE z)]))) := fun z w1 hk1 => by
          rw [← rowZ_iv]; exact rload_any ((unhide HH).keeps hk1 (fun _ _ => id)) (unhide HOK) z
        clear hrt hi hr hon RS2 HOUT1 HT0
        go_wp2_with fail
        go_loopw [11, 16] (fun v c0 wr => ∃ (k : Nat) (C12 : Array Value), k ≤ 7 ∧ c0 = .int .i64 k ∧ C12.size = 8 ∧ RowSt w wr v (nsTo A root k) [(w.heap.size + 1 + 1, .cells (iv .i64 (rowE 49 (upTo (tabF A root) (7 * k)))) 24), (B12, .cells (C12) 27), (w.heap.size, .cells (iv .i64 (zrow 49)) 24), (w.heap.size + 1, .cells (iv .i64 zs7) 37), (w.heap.size + 1 + 1 + 1, .cells (iv .i64 zs7) 37), (B14, .cells (iv .i64 (lsA A root)) 37)] ∧ ∀ i, i < k → isX (leafA A root i) = true) (fun _ c0 _ => 7 - (intOf c0).toNat)
        case atStart => exact ⟨0, _, by omega, rfl, by rw [iv_size, lineA_len], unhide RS3, fun i hi => by omega⟩
        case round =>
          clear RS3
          obtain ⟨k, C12, hk, rfl, hc12, rs, hx⟩ := hrel
          have RS := hide rs
          have HX := hide hx
          have hlt12 := rs.lt (B12, .cells C12 27) (by simp)
          clear rs hx
          by_cases hlt : k < 7
          · obtain ⟨zk, hzk⟩ : ∃ zk, zk = (lsA A root).getD k 0 := ⟨_, rfl⟩
            have HLK7 := unhide HLS k hlt
            rw [← hzk] at HLK7
            have HL7 := hide HLK7
            have c14 : wr.cell? ⟨B14, k, none⟩ = some (.int .i64 zk) := by rw [cell_of_block ((unhide RS).at B14 (.cells (iv .i64 (lsA A root)) 37) (by simp)), HLK7]
            have hnl := nsTo_len A root k
            have hlen : (nsTo A root k).length < 1000 := by omega
            have HZK := hide hzk
            have CR := hide (rreadLeaf_any (rowZ A zk) (rowZ_len _ _) (rowZ_wf A zk (unhide HLK)))
            have s8 := s8_of (rowZ A zk) (rowZ_len _ _)
            have e8 : C12.size = (iv .u64 (rowZ A zk)).size := by rw [hc12, iv_size, rowZ_len]
            have n21 := iv_newx .i64 (readXV (rowZ A zk)) 33 21 (readXV_len _)
            have z21 : (iv .i64 (readXV (rowZ A zk))).size = 21 := by rw [iv_size, readXV_len]
            clear hzk HLK7 hnl
            go_wp2_with (at_builtin; refine push_st zk rfl (.tmp 56) (.tmp 60) rfl rfl (unhide RS) rfl hlen ?_; intro v1 w1 st1; have c14b : w1.cell? ⟨B14, k, none⟩ = some (.int .i64 zk) := (by rw [cell_of_block (st1.at B14 (.cells (iv .i64 (lsA A root)) 37) (by simp)), unhide HL7]); have RS1 := hide st1; clear st1)
            refine (unhide CLD zk w1 (unhide RS1).kp).mono ?_
            rintro e w2 ⟨rfl, hk2⟩
            have RS2 := hide ((unhide RS1).keeps hk2)
            have K12 := hide ((unhide RS2).at B12 (.cells C12 27) (by simp))
            have RS3 := hide (rowSt_head (g := B12) (o := .cells C12 27) (o' := .cells (iv .u64 (rowZ A zk)) 27) (w' := w2.setRow B12 (iv .u64 (rowZ A zk))) (L := [(w.heap.size + 1 + 1, .cells (iv .i64 (rowE 49 (upTo (tabF A root) (7 * k)))) 24), (w.heap.size, .cells (iv .i64 (zrow 49)) 24), (w.heap.size + 1, .cells (iv .i64 zs7) 37), (w.heap.size + 1 + 1 + 1, .cells (iv .i64 zs7) 37), (B14, .cells (iv .i64 (lsA A root)) 37)]) ((unhide RS2).less (by intro p hp; simp only [List.mem_cons, List.not_mem_nil, or_false] at hp ⊢; rcases hp with rfl | rfl | rfl | rfl | rfl | rfl <;> simp)) (by intro p hp; simp only [List.mem_cons, List.not_mem_nil, or_false] at hp; rcases hp with rfl | rfl | rfl | rfl | rfl <;> (simp <;> omega)) (Keeps.setRow (F := (· = B12)) (Keeps.refl _ _) (Or.inl rfl) _) (setRow_heap _ _ _ _ _ _ (unhide K12)))
            have K12b := hide ((unhide RS3).at B12 (.cells (iv .u64 (rowZ A zk)) 27) (by simp))
            clear hk2 c14 c14b RS RS1 RS2
            go_wp2_with (first | (with_reducible refine wpList_store_row (by with_unfolding_all rfl) 27 _ _ (by with_unfolding_all rfl) B12 (iv .u64 (rowZ A zk)) (by with_unfolding_all rfl) (by with_unfolding_all rfl) _ _ (unhide K12) s8 e8 (iv_one _ _) ?_) | (with_reducible refine wpList_load_row (by with_unfolding_all rfl) 27 _ (by with_unfolding_all rfl) B12 (by with_unfolding_all rfl) _ _ _ _ (unhide K12b) Try.underlying27 (by with_unfolding_all rfl) s8 ?_))
            refine (unhide CR _).mono ?_
            rintro e w3 ⟨rfl, hb3⟩
            have RS4 := hide (((unhide RS3).below hb3).alloc (.cells (iv .i64 (readXV (rowZ A zk))) 33))
            have hge17 : B14 < w3.heap.size := ((unhide RS3).below hb3).lt (B14, .cells (iv .i64 (lsA A root)) 37) (by simp)
            clear hb3 CR RS3 K12 K12b s8 e8
            go_upto_region 16 with fail
            clear n21 z21
            obtain ⟨W5, hW5⟩ : ∃ W5, W5 = w3.alloc (.cells (iv .i64 (readXV (rowZ A zk))) 33) := ⟨_, rfl⟩
            obtain ⟨B17, hB17⟩ : ∃ B17, B17 = w3.heap.size := ⟨_, rfl⟩
            rw [← hW5, ← hB17] at RS4
            rw [← hW5, ← hB17]
            rw [← hB17] at hge17
            clear hW5 hB17
            have HOUT1 : Hid (OutS w (w.heap.size + 1 + 1) (w.heap.size + 1 + 1 + 1) (rowE 49 (upTo (tabF A root) (7 * k))) zs7 W5) := (unhide RS4).out _ _ _ _ (zrow 49) zs7 (zrow_len 49) rfl (by simp) (by simp) (by simp) (by simp)
            by_cases hrk : 0 ≤ zk ∧ zk < A.n
            · obtain ⟨e1, e2⟩ := rowZ_in A zk hrk.1 hrk.2 (unhide HON)
              have e3 : lineA A zk.toNat = leafA A root k := by rw [unhide HZK]; rfl
              rw [e2]
              rw [e1, e3] at RS4
              rw [e1, e3]
              clear e1 e2 e3
              cases hi : isX (leafA A root k) with
              | false =>
                have hlb : loadB A fr root = false := bool_not fun hh => by have := ((loadB_iff A fr root).1 hh).2.1 k hlt; rw [hi] at this; cases this
                have HV := hide (unhide HNO hlb (unhide HON))
                have HOUT := HOUT1
                have lVA2 : (rowE 49 (upTo (tabF A root) (7 * k))).length = 147 := rowE_len 49 _
                clear hlb hi HNO HOUT1 RS4
                have sA147 : (Try.prog.info? 24).map (·.size) = some (iv .i64 ((rowE 49 (upTo (tabF A root) (7 * k))))).toList.length := by rw [Array.length_toList]; exact s147o_of _ lVA2
                have sB7 : (Try.prog.info? 37).map (·.size) = some (iv .i64 (zs7)).toList.length := by rw [Array.length_toList]; exact s7_of _ lVB
                go_wp2_with fail
                refine wp_region_noPanic ?_
                refine wp_region_held_drew (S := OutS w (w.heap.size + 1 + 1) (w.heap.size + 1 + 1 + 1) (rowE 49 (upTo (tabF A root) (7 * k))) zs7) (by kernel_rfl) (OutS.drew (unhide HOUT)) (fun hHeld => ?_)
                clear HOUT
                refine take_at 0 81 rfl rfl (by kernel_rfl) (by kernel_rfl) (by kernel_rfl) (yieldsIf_build0 (by rfl) 24 rfl _ build147o) hHeld ?_
                simp only [Act.put, List.setIfInBounds_toArray, List.set_cons_zero, List.set_cons_succ]
                refine take_at 1 82 rfl rfl (by kernel_rfl) (by kernel_rfl) (by kernel_rfl) (yieldsIf_load_mid (by rfl) 37 _ rfl (w.heap.size + 1 + 1 + 1) 0 rfl (iv .i64 zs7).toList _ (fun w' h => OutS.rB h) Try.underlying37 rfl sB7) hHeld ?_
                simp only [Act.put, List.setIfInBounds_toArray, List.set_cons_zero, List.set_cons_succ]
                obtain ⟨X0, x1, x2⟩ := hHeld.2.1
                refine wpAnyH_ready (rs := [2]) (by kernel_rfl) (by simp) ?_
                refine AllReadyH.cons rfl (fun K hK => ?_) AllReadyH.nil
                refine (if_pos (by rfl)).mpr ?_
                refine wp_store_row 24 (.tmp 6) (.tmp 81) rfl w.heap.size (iv .i64 (zrow 49)) rfl rfl _ _ x1 (s147o_of _ lRA) (by rw [x2, iv_size, lRA]) (iv_one _ _) ?_
                refine hK.out _ _ (hHeld.one (by omega) (by omega) _ (by rw [iv_size, lRA])) (fun hNew => ?_)
                have KA := hide (setRow_heap _ _ _ (iv .i64 (zrow 49)) _ _ x1)
                clear hK K hHeld x1 x2
                obtain ⟨Y0, y1, y2⟩ := hNew.2.2.1
                refine wpAnyH_ready (rs := [3]) (by kernel_rfl) (by simp) ?_
                refine AllReadyH.cons rfl (fun K hK => ?_) AllReadyH.nil
                refine (if_pos (by rfl)).mpr ?_
                refine wp_store_row 37 (.tmp 7) (.tmp 82) rfl (w.heap.size + 1) (iv .i64 (zs7)) rfl rfl _ _ y1 (s7_of _ lVB) (by rw [y2, iv_size, lVB]) (iv_one _ _) ?_
                refine hK.out _ _ (hNew.two (by omega) (by omega) _ (by rw [iv_size, lVB])) (fun hHeld => ?_)
                have KB := hide (setRow_heap _ _ _ (iv .i64 (zs7)) _ _ y1)
                have KA2 := hide ((setRow_other _ (w.heap.size + 1) w.heap.size (iv .i64 (zs7)) (by omega)).trans (unhide KA))
                clear hK K hNew y1 y2 KA
                refine take_at 4 8 (v := ?_) rfl rfl (by kernel_rfl) (by kernel_rfl) (by kernel_rfl) (Or.inl ⟨by rfl, ?_⟩) hHeld ?_
                rotate_left
                · intro w hSw; go_simp; with_reducible rfl
                simp only [Act.put, List.setIfInBounds_toArray, List.set_cons_zero, List.set_cons_succ]
                refine wpAnyH_done (by kernel_rfl) ?_ _
                refine NoPanic.normal ?_
                have HF := hide hHeld.1
                clear hHeld
                go_wp2_with fail
                refine bodyPost_ret (v := .tuple #[.agg (iv .i64 (zrow 49)), .agg (iv .i64 (zs7)), .int .i64 21]) (results_three Try.results23 _ _ w.heap.size (w.heap.size + 1) 24 37 (iv .i64 (zrow 49)) (iv .i64 (zs7)) (0, 0) (0, 0) _ _ _ rfl rfl rfl (unhide KA2) (unhide KB) Try.underlying24 rfl (s147o_of _ lRA) Try.underlying37 rfl (s7_of _ lVB)) rfl ?_
                exact ⟨by rw [(unhide HV).1, (unhide HV).2.1, (unhide HV).2.2], unhide HF⟩
              | true =>
                have hrt : readXV (leafA A root k) = readX (leafA A root k) := by unfold readXV; rw [if_pos hi]
                rw [hrt] at RS4
                have HX2 : Hid (∀ i, i < k + 1 → isX (leafA A root i) = true) := fun i hi2 => by
                  by_cases e : i = k
                  · subst e; exact hi
                  · exact unhide HX i (by omega)
                have HNS : Hid (nsTo A root (k + 1) = nsTo A root k ++ [zk] ++ objTo (readX (leafA A root k)) 7) := by rw [unhide HZK]; exact rfl
                have HTF : Hid (∀ j, j < 7 → tabF A root (7 * k + j) = enAt (readX (leafA A root k)) j) := fun j hj => tabF_at A root k j hj
                have LX := hide (readX_len (leafA A root k))
                clear hrt hi HOUT1 HX
                generalize readX (leafA A root k) = X at *
                have RS5 : Hid (RowSt w W5 v1 (nsTo A root k ++ [zk] ++ objTo X 0) [(w.heap.size + 1 + 1, .cells (iv .i64 (rowE 49 (upTo (tabF A root) (7 * k)))) 24), (B12, .cells (iv .u64 (leafA A root k)) 27), (w.heap.size, .cells (iv .i64 (zrow 49)) 24), (w.heap.size + 1, .cells (iv .i64 zs7) 37), (w.heap.size + 1 + 1 + 1, .cells (iv .i64 zs7) 37), (B14, .cells (iv .i64 (lsA A root)) 37), (B17, .cells (iv .i64 X) 33)]) := by
                  show RowSt _ _ _ _ _
                  rw [show objTo X 0 = [] from rfl, List.append_nil]
                  exact (unhide RS4).less (by intro p hp; simp only [List.mem_cons, List.not_mem_nil, or_false] at hp ⊢; rcases hp with rfl | rfl | rfl | rfl | rfl | rfl | rfl <;> simp)
                clear RS4
                go_wp2_with fail
                go_loopw [11, 19] (fun v c1 wi => ∃ (j : Nat), j ≤ 7 ∧ c1 = .int .i64 j ∧ RowSt w wi v (nsTo A root k ++ [zk] ++ objTo X j) [(w.heap.size + 1 + 1, .cells (iv .i64 (rowE 49 (upTo (tabF A root) (7 * k + j)))) 24), (B12, .cells (iv .u64 (leafA A root k)) 27), (w.heap.size, .cells (iv .i64 (zrow 49)) 24), (w.heap.size + 1, .cells (iv .i64 zs7) 37), (w.heap.size + 1 + 1 + 1, .cells (iv .i64 zs7) 37), (B14, .cells (iv .i64 (lsA A root)) 37), (B17, .cells (iv .i64 X) 33)]) (fun _ c1 _ => 7 - (intOf c1).toNat)
                case atStart => exact ⟨0, by omega, rfl, unhide RS5⟩
                case round =>
                  clear RS5
                  obtain ⟨j, hj, rfl, rs⟩ := hrel
                  have RS := hide rs
                  clear rs
                  by_cases hlj : j < 7
                  · have KX := hide ((unhide RS).at B17 (.cells (iv .i64 X) 33) (by simp))
                    have RX := hide (range_en X (unhide KX) j (by rw [unhide LX]; omega))
                    have KT := hide ((unhide RS).at (w.heap.size + 1 + 1) (.cells (iv .i64 (rowE 49 (upTo (tabF A root) (7 * k + j)))) 24) (by simp))
                    have TT := hide (there_en _ (unhide KT) (7 * k + j) (by rw [rowE_len]; omega))
                    have Hset : put3 (rowE 49 (upTo (tabF A root) (7 * k + j))) (7 * k + j) (enAt X j) = rowE 49 (upTo (tabF A root) (7 * k + (j + 1))) := by
                      rw [← unhide HTF j hlj, put3_upTo 49 _ (7 * k + j) (by omega), Nat.add_assoc]
                    have RS6 := rowSt_head (w' := wr.setCells (w.heap.size + 1 + 1) ((7 * k + j) * 3) (ev (enAt X j)).toList) (unhide RS) (by intro p hp; simp only [List.mem_cons, List.not_mem_nil, or_false] at hp; rcases hp with rfl | rfl | rfl | rfl | rfl | rfl <;> (simp <;> omega)) (Keeps.setCells (F := (· = w.heap.size + 1 + 1)) (Or.inl rfl) _ _ _ (Keeps.refl _ _)) (block_put3 _ (unhide KT) (7 * k + j) (enAt X j))
                    rw [Hset] at RS6
                    have RS7 := hide RS6
                    clear RS6 Hset KT RS KX
                    go_upto_region 22 with (first | (with_reducible refine wpList_load_en (by with_unfolding_all rfl) _ (by with_unfolding_all rfl) B17 (j * 3) (by with_unfolding_all rfl) (enAt X j) (unhide RX) ?_) | (with_reducible refine wpList_store_en (by with_unfolding_all rfl) _ _ (by with_unfolding_all rfl) (w.heap.size + 1 + 1) ((7 * k + j) * 3) (enAt X j) (by with_unfolding_all rfl) (by with_unfolding_all rfl) (unhide TT) ?_))
                    clear RX TT
                    generalize wr.setCells (w.heap.size + 1 + 1) ((7 * k + j) * 3) (ev (enAt X j)).toList = WS at *
                    have KX := (unhide RS7).at B17 (.cells (iv .i64 X) 33) (by simp)
                    have cK : WS.cell? ⟨B17, j * 3, none⟩ = some (.int .i64 (enAt X j).k) := by rw [cell_of_block KX, iv_get _ _ _ (by rw [unhide LX]; omega), Nat.mul_comm]; rfl
                    have cL : WS.cell? ⟨B17, j * 3 + 2, none⟩ = some (.int .i64 (enAt X j).l) := by rw [cell_of_block KX, iv_get _ _ _ (by rw [unhide LX]; omega), Nat.mul_comm]; rfl
                    have HOB : Hid (objTo X (j + 1) = objTo X j ++ (if (enAt X j).k = 0 then [] else [(enAt X j).l])) := rfl
                    have hol := objTo_len X j
                    have hlen2 : (nsTo A root k ++ [zk] ++ objTo X j).length < 1000 := by
                      have := nsTo_len A root k
                      simp only [List.length_append, List.length_singleton]; omega
                    clear KX hol
                    generalize enAt X j = c at *
                    by_cases hk0 : c.k = 0
                    · have hk1 : (c.k != 0) = false := by simpa using hk0
                      have ho : objTo X (j + 1) = objTo X j := by rw [unhide HOB, if_pos hk0, List.append_nil]
                      have HO := hide ho
                      clear ho hk0 HOB hlen2
                      go_wp2_with fail
                      go_roundw
                      case rel => exact ⟨j + 1, by omega, by go_num, by rw [unhide HO]; exact unhide RS7⟩
                      case measure => simp [intOf]; omega
                    · have hk1 : (c.k != 0) = true := by simpa using hk0
                      have ho : nsTo A root k ++ [zk] ++ objTo X (j + 1) = (nsTo A root k ++ [zk] ++ objTo X j) ++ [c.l] := by rw [unhide HOB, if_neg hk0, List.append_assoc (nsTo A root k ++ [zk])]
                      have HO := hide ho
                      clear ho hk0 HOB
                      go_wp2_with (at_builtin; refine push_st c.l rfl (.tmp 100) (.tmp 105) rfl rfl (unhide RS7) rfl hlen2 ?_; intro v2 w6 st2; have RS8 := hide st2; clear st2)
                      go_roundw
                      case rel => exact ⟨j + 1, by omega, by go_num, by rw [unhide HO]; exact unhide RS8⟩
                      case measure => simp [intOf]; omega
                  · obtain rfl : j = 7 := by omega
                    have RS9 : Hid (RowSt w wr u11 (nsTo A root (k + 1)) [(w.heap.size + 1 + 1, .cells (iv .i64 (rowE 49 (upTo (tabF A root) (7 * (k + 1))))) 24), (B12, .cells (iv .u64 (leafA A root k)) 27), (w.heap.size, .cells (iv .i64 (zrow 49)) 24), (w.heap.size + 1, .cells (iv .i64 zs7) 37), (w.heap.size + 1 + 1 + 1, .cells (iv .i64 zs7) 37), (B14, .cells (iv .i64 (lsA A root)) 37)]) := by
                      show RowSt _ _ _ _ _
                      rw [unhide HNS, show 7 * (k + 1) = 7 * k + 7 by omega]
                      exact (unhide RS).less (by intro p hp; simp only [List.mem_cons, List.not_mem_nil, or_false] at hp ⊢; rcases hp with rfl | rfl | rfl | rfl | rfl | rfl <;> simp)
                    clear RS
                    go_wp2_with fail
                    go_roundw
                    case rel => exact ⟨k + 1, _, by omega, by go_num, by rw [iv_size, show (leafA A root k).length = 8 from lineA_len _ _], unhide RS9, unhide HX2⟩
                    case measure => simp [intOf]; omega
            · have hlb : loadB A fr root = false := bool_not fun hh => by
                have h2 := ((loadB_iff A fr root).1 hh).2.2
                obtain ⟨r, hr⟩ := nsTo_seven A root (k + 1) (by omega)
                rw [hr] at h2
                have h3 := okN_mem (okN_prefix h2) (z := zk) (by rw [unhide HZK, nsTo]; simp)
                exact hrk ⟨h3.1, h3.2.2⟩
              have HV := hide (unhide HNO hlb (unhide HON))
              have HOUT := HOUT1
              rw [rowZ_out A zk hrk]
              have lVA2 : (rowE 49 (upTo (tabF A root) (7 * k))).length = 147 := rowE_len 49 _
              clear hlb hrk HNO HOUT1 RS4
              have sA147 : (Try.prog.info? 24).map (·.size) = some (iv .i64 ((rowE 49 (upTo (tabF A root) (7 * k))))).toList.length := by rw [Array.length_toList]; exact s147o_of _ lVA2
              have sB7 : (Try.prog.info? 37).map (·.size) = some (iv .i64 (zs7)).toList.length := by rw [Array.length_toList]; exact s7_of _ lVB
              go_wp2_with fail
              refine wp_region_noPanic ?_
              refine wp_region_held_drew (S := OutS w (w.heap.size + 1 + 1) (w.heap.size + 1 + 1 + 1) (rowE 49 (upTo (tabF A root) (7 * k))) zs7) (by kernel_rfl) (OutS.drew (unhide HOUT)) (fun hHeld => ?_)
              clear HOUT
              refine take_at 0 81 rfl rfl (by kernel_rfl) (by kernel_rfl) (by kernel_rfl) (yieldsIf_build0 (by rfl) 24 rfl _ build147o) hHeld ?_
              simp only [Act.put, List.setIfInBounds_toArray, List.set_cons_zero, List.set_cons_succ]
              refine take_at 1 82 rfl rfl (by kernel_rfl) (by kernel_rfl) (by kernel_rfl) (yieldsIf_load_mid (by rfl) 37 _ rfl (w.heap.size + 1 + 1 + 1) 0 rfl (iv .i64 zs7).toList _ (fun w' h => OutS.rB h) Try.underlying37 rfl sB7) hHeld ?_
              simp only [Act.put, List.setIfInBounds_toArray, List.set_cons_zero, List.set_cons_succ]
              obtain ⟨X0, x1, x2⟩ := hHeld.2.1
              refine wpAnyH_ready (rs := [2]) (by kernel_rfl) (by simp) ?_
              refine AllReadyH.cons rfl (fun K hK => ?_) AllReadyH.nil
              refine (if_pos (by rfl)).mpr ?_
              refine wp_store_row 24 (.tmp 6) (.tmp 81) rfl w.heap.size (iv .i64 (zrow 49)) rfl rfl _ _ x1 (s147o_of _ lRA) (by rw [x2, iv_size, lRA]) (iv_one _ _) ?_
              refine hK.out _ _ (hHeld.one (by omega) (by omega) _ (by rw [iv_size, lRA])) (fun hNew => ?_)
              have KA := hide (setRow_heap _ _ _ (iv .i64 (zrow 49)) _ _ x1)
              clear hK K hHeld x1 x2
              obtain ⟨Y0, y1, y2⟩ := hNew.2.2.1
              refine wpAnyH_ready (rs := [3]) (by kernel_rfl) (by simp) ?_
              refine AllReadyH.cons rfl (fun K hK => ?_) AllReadyH.nil
              refine (if_pos (by rfl)).mpr ?_
              refine wp_store_row 37 (.tmp 7) (.tmp 82) rfl (w.heap.size + 1) (iv .i64 (zs7)) rfl rfl _ _ y1 (s7_of _ lVB) (by rw [y2, iv_size, lVB]) (iv_one _ _) ?_
              refine hK.out _ _ (hNew.two (by omega) (by omega) _ (by rw [iv_size, lVB])) (fun hHeld => ?_)
              have KB := hide (setRow_heap _ _ _ (iv .i64 (zs7)) _ _ y1)
              have KA2 := hide ((setRow_other _ (w.heap.size + 1) w.heap.size (iv .i64 (zs7)) (by omega)).trans (unhide KA))
              clear hK K hNew y1 y2 KA
              refine take_at 4 8 (v := ?_) rfl rfl (by kernel_rfl) (by kernel_rfl) (by kernel_rfl) (Or.inl ⟨by rfl, ?_⟩) hHeld ?_
              rotate_left
              · intro w hSw; go_simp; with_reducible rfl
              simp only [Act.put, List.setIfInBounds_toArray, List.set_cons_zero, List.set_cons_succ]
              refine wpAnyH_done (by kernel_rfl) ?_ _
              refine NoPanic.normal ?_
              have HF := hide hHeld.1
              clear hHeld
              go_wp2_with fail
              refine bodyPost_ret (v := .tuple #[.agg (iv .i64 (zrow 49)), .agg (iv .i64 (zs7)), .int .i64 21]) (results_three Try.results23 _ _ w.heap.size (w.heap.size + 1) 24 37 (iv .i64 (zrow 49)) (iv .i64 (zs7)) (0, 0) (0, 0) _ _ _ rfl rfl rfl (unhide KA2) (unhide KB) Try.underlying24 rfl (s147o_of _ lRA) Try.underlying37 rfl (s7_of _ lVB)) rfl ?_
              exact ⟨by rw [(unhide HV).1, (unhide HV).2.1, (unhide HV).2.2], unhide HF⟩
          · obtain rfl : k = 7 := by omega
            have hta : rowE 49 (upTo (tabF A root) (7 * 7)) = tabA A root := upTo_all 49 _
            rw [hta] at RS
            have hne : nsTo A root 7 ≠ [] := by rw [nsTo]; simp
            obtain ⟨ax, cx, rfl⟩ := rowX_form (unhide RS).2.1
            have HN57 := nsTo_len A root 7
            have HNN := hide (nsTo_nonneg A root (unhide HR0).1 (unhide HI) (unhide HX) 7 (by omega))
            have HBAD : Hid (∀ i, i < (nsTo A root 7).length → nbB A.n fr (nsTo A root 7) i i = true → loadB A fr root = false) := fun i hi e => bool_not fun hh => by
              have := ((loadB_iff A fr root).1 hh).2.2
              rw [okD_not A.n fr _ i hi e] at this; cases this
            have HGOOD : Hid ((∀ i, i < (nsTo A root 7).length → nbB A.n fr (nsTo A root 7) i i = false) → loadB A fr root = true) := fun e => by
              have h1 := okD_of A.n fr _ (unhide HNN) e
              refine (loadB_iff A fr root).2 ⟨⟨?_, unhide HI⟩, unhide HX, h1⟩
              obtain ⟨r, hr⟩ := nsTo_seven A root 0 (by omega)
              rw [hr] at h1
              exact okN_prefix h1
            have HNL : Hid ((nsTo A root 7).length = (nsTo A root 7).length) := rfl
            obtain ⟨N, hN⟩ : ∃ N, N = (nsTo A root 7).length := ⟨_, rfl⟩
            have HNE := hide hN
            rw [← hN] at HN57 RS HBAD HGOOD
            rw [← hN]
            clear hN hta hne HNN HX HLS CLD hc12 HNL
            generalize nsTo A root 7 = ns at *
            go_wp2_with fail
            go_loopw [20] (fun c3 wr => ∃ i : Nat, i ≤ N ∧ c3 = .int .i64 i ∧ RowSt w wr (.slice ax N cx) ns [(w.heap.size + 1 + 1, .cells (iv .i64 (tabA A root)) 24), (B12, .cells (C12) 27), (w.heap.size, .cells (iv .i64 (zrow 49)) 24), (w.heap.size + 1, .cells (iv .i64 zs7) 37), (w.heap.size + 1 + 1 + 1, .cells (iv .i64 zs7) 37), (B14, .cells (iv .i64 (lsA A root)) 37)] ∧ ∀ j, j < i → nbB A.n fr ns j j = false) (fun c3 _ => N - (intOf c3).toNat)
            case atStart => exact ⟨0, by omega, rfl, unhide RS, fun j hj => by omega⟩
            case round =>
              clear RS
              obtain ⟨i, hi, rfl, rs, hgd⟩ := hrel
              have RS := hide rs
              have HGD := hide hgd
              clear rs hgd
              have HOUT1 : Hid (OutS w (w.heap.size + 1 + 1) (w.heap.size + 1 + 1 + 1) (tabA A root) zs7 wr) := (unhide RS).out _ _ _ _ (zrow 49) zs7 (zrow_len 49) rfl (by simp) (by simp) (by simp) (by simp)
              by_cases hlt3 : i < N
              · obtain ⟨g, hax, hcell⟩ := rowX_at (unhide RS).2.1 (by rw [← unhide HNE]; omega)
                subst hax
                obtain ⟨zi, hzi⟩ : ∃ zi, zi = ns.getD i 0 := ⟨_, rfl⟩
                have CI : Hid (∀ w' : World, Keeps (fun _ => False) wr w' → w'.cell? ⟨g, i, none⟩ = some (.int .i64 zi)) := fun w' hk' => by rw [hzi]; exact hk'.cellOf (hcell i (by rw [← unhide HNE]; omega)) id
                have CM : Hid (∀ w' : World, Keeps (fun _ => False) wr w' → w'.cell? ⟨b, 0, none⟩ = some (.slice (some ⟨gs, 0, none⟩) A.n cs)) := fun w' hk' => ((unhide HH).keeps ((unhide RS).kp.trans' hk') (fun _ _ => id)).c0
                have i0 : (0 : Int) ≤ (i : Int) := by omega
                have iN : (i : Int) < (N : Int) := by omega
                have HNB0 : Hid (nbB A.n fr ns i 0 = (decide (zi < fr) || decide ((A.n : Int) ≤ zi))) := by rw [hzi]; exact rfl
                have HZI := hide hzi
                clear hcell HOUT1 hzi
                by_cases hlf : zi < fr
                · have HB0 : Hid (nbB A.n fr ns i 0 = true) := by show _ = _; rw [unhide HNB0, decide_eq_true hlf]; rfl
                  go_wp2_with fail
                  refine wp_region_noPanic ?_
                  refine wp_region_held_drew (S := fun w' => Keeps (fun _ => False) wr w') (by kernel_rfl) ((Keeps.refl _ _).drew) (fun hHeld => ?_)
                  refine take_at 0 113 (v := ?_) rfl rfl (by kernel_rfl) (by kernel_rfl) (by kernel_rfl) (Or.inl ⟨by rfl, ?_⟩) hHeld ?_
                  rotate_left
                  · intro w hSw; go_simp; with_reducible rfl
                  simp only [Act.put, List.setIfInBounds_toArray, List.set_cons_zero, List.set_cons_succ]
                  refine take_at 1 114 (v := ?_) rfl rfl (by kernel_rfl) (by kernel_rfl) (by kernel_rfl) (Or.inl ⟨by rfl, ?_⟩) hHeld ?_
                  rotate_left
                  · intro w hSw; go_simp; with_reducible rfl
                  simp only [Act.put, List.setIfInBounds_toArray, List.set_cons_zero, List.set_cons_succ]
                  refine take_at 2 115 (v := ?_) rfl rfl (by kernel_rfl) (by kernel_rfl) (by kernel_rfl) (Or.inl ⟨by rfl, ?_⟩) hHeld ?_
                  rotate_left
                  · intro w hSw; go_simp; with_reducible rfl
                  simp only [Act.put, List.setIfInBounds_toArray, List.set_cons_zero, List.set_cons_succ]
                  refine take_at 3 116 (v := ?_) rfl rfl (by kernel_rfl) (by kernel_rfl) (by kernel_rfl) (Or.inl ⟨by rfl, ?_⟩) hHeld ?_
                  rotate_left
                  · intro w hSw; have f := unhide CI w hSw; go_simp; with_reducible rfl
                  simp only [Act.put, List.setIfInBounds_toArray, List.set_cons_zero, List.set_cons_succ]
                  refine take_at 4 117 (v := ?_) rfl rfl (by kernel_rfl) (by kernel_rfl) (by kernel_rfl) (Or.inl ⟨by rfl, ?_⟩) hHeld ?_
                  rotate_left
                  · intro w hSw; go_simp; with_reducible rfl
                  simp only [Act.put, List.setIfInBounds_toArray, List.set_cons_zero, List.set_cons_succ]
                  refine take_at 5 118 (v := ?_) rfl rfl (by kernel_rfl) (by kernel_rfl) (by kernel_rfl) (Or.inl ⟨by rfl, ?_⟩) hHeld ?_
                  rotate_left
                  · intro w hSw; have f : zi < fr := hlf; go_simp; with_reducible rfl
                  simp only [Act.put, List.setIfInBounds_toArray, List.set_cons_zero, List.set_cons_succ]
                  refine take_at 6 119 (v := ?_) rfl rfl (by kernel_rfl) (by kernel_rfl) (by kernel_rfl) (Or.inl ⟨by rfl, ?_⟩) hHeld ?_
                  rotate_left
                  · intro w hSw; go_simp; with_reducible rfl
                  simp only [Act.put, List.setIfInBounds_toArray, List.set_cons_zero, List.set_cons_succ]
                  refine take_at 7 120 rfl rfl (by kernel_rfl) (by kernel_rfl) (by kernel_rfl) (Or.inr ⟨by rfl, rfl⟩) hHeld ?_
                  simp only [Act.put, List.setIfInBounds_toArray, List.set_cons_zero, List.set_cons_succ]
                  refine take_at 8 121 rfl rfl (by kernel_rfl) (by kernel_rfl) (by kernel_rfl) (Or.inr ⟨by rfl, rfl⟩) hHeld ?_
                  simp only [Act.put, List.setIfInBounds_toArray, List.set_cons_zero, List.set_cons_succ]
                  refine take_at 9 122 rfl rfl (by kernel_rfl) (by kernel_rfl) (by kernel_rfl) (Or.inr ⟨by rfl, rfl⟩) hHeld ?_
                  simp only [Act.put, List.setIfInBounds_toArray, List.set_cons_zero, List.set_cons_succ]
                  refine take_at 10 123 rfl rfl (by kernel_rfl) (by kernel_rfl) (by kernel_rfl) (Or.inr ⟨by rfl, rfl⟩) hHeld ?_
                  simp only [Act.put, List.setIfInBounds_toArray, List.set_cons_zero, List.set_cons_succ]
                  refine take_at 11 124 rfl rfl (by kernel_rfl) (by kernel_rfl) (by kernel_rfl) (Or.inr ⟨by rfl, rfl⟩) hHeld ?_
                  simp only [Act.put, List.setIfInBounds_toArray, List.set_cons_zero, List.set_cons_succ]
                  refine take_at 12 125 rfl rfl (by kernel_rfl) (by kernel_rfl) (by kernel_rfl) (Or.inr ⟨by rfl, rfl⟩) hHeld ?_
                  simp only [Act.put, List.setIfInBounds_toArray, List.set_cons_zero, List.set_cons_succ]
                  refine take_at 13 126 rfl rfl (by kernel_rfl) (by kernel_rfl) (by kernel_rfl) (Or.inr ⟨by rfl, rfl⟩) hHeld ?_
                  simp only [Act.put, List.setIfInBounds_toArray, List.set_cons_zero, List.set_cons_succ]
                  refine take_at 14 127 rfl rfl (by kernel_rfl) (by kernel_rfl) (by kernel_rfl) (Or.inr ⟨by rfl, rfl⟩) hHeld ?_
                  simp only [Act.put, List.setIfInBounds_toArray, List.set_cons_zero, List.set_cons_succ]
                  refine take_at 15 128 rfl rfl (by kernel_rfl) (by kernel_rfl) (by kernel_rfl) (Or.inr ⟨by rfl, rfl⟩) hHeld ?_
                  simp only [Act.put, List.setIfInBounds_toArray, List.set_cons_zero, List.set_cons_succ]
                  refine take_at 16 129 rfl rfl (by kernel_rfl) (by kernel_rfl) (by kernel_rfl) (Or.inr ⟨by rfl, rfl⟩) hHeld ?_
                  simp only [Act.put, List.setIfInBounds_toArray, List.set_cons_zero, List.set_cons_succ]
                  refine take_at 17 130 (v := ?_) rfl rfl (by kernel_rfl) (by kernel_rfl) (by kernel_rfl) (Or.inl ⟨by rfl, ?_⟩) hHeld ?_
                  rotate_left
                  · intro w hSw; go_simp; with_reducible rfl
                  simp only [Act.put, List.setIfInBounds_toArray, List.set_cons_zero, List.set_cons_succ]
                  refine take_at 18 21 (v := ?_) rfl rfl (by kernel_rfl) (by kernel_rfl) (by kernel_rfl) (Or.inl ⟨by rfl, ?_⟩) hHeld ?_
                  rotate_left
                  · intro w hSw; go_simp; with_reducible rfl
                  simp only [Act.put, List.setIfInBounds_toArray, List.set_cons_zero, List.set_cons_succ]
                  refine wpAnyH_done (by kernel_rfl) ?_ _
                  refine NoPanic.normal ?_
                  have RS1 := hide ((unhide RS).keeps hHeld)
                  clear hHeld RS
                  clear HNB0 hlf CI CM
                  go_wp2_with fail
                  go_loopw [21, 22] (fun d c4 wr => ∃ m : Nat, m ≤ i ∧ d = .bool (nbB A.n fr ns i m) ∧ c4 = .int .i64 m ∧ RowSt w wr (.slice (some ⟨g, 0, none⟩) N cx) ns [(w.heap.size + 1 + 1, .cells (iv .i64 (tabA A root)) 24), (B12, .cells (C12) 27), (w.heap.size, .cells (iv .i64 (zrow 49)) 24), (w.heap.size + 1, .cells (iv .i64 zs7) 37), (w.heap.size + 1 + 1 + 1, .cells (iv .i64 zs7) 37), (B14, .cells (iv .i64 (lsA A root)) 37)]) (fun _ c4 _ => i - (intOf c4).toNat)
                  case atStart => exact ⟨0, by omega, by rw [unhide HB0], rfl, unhide RS1⟩
                  case round =>
                    clear RS1 HB0
                    obtain ⟨m, hm, rfl, rfl, rs⟩ := hrel
                    have RS := hide rs
                    clear rs
                    by_cases hlm : m < i
                    · obtain ⟨g2, hax2, hcell⟩ := rowX_at (unhide RS).2.1 (by rw [← unhide HNE]; omega)
                      obtain rfl : g2 = g := by simpa using hax2.symm
                      obtain ⟨zm, hzm⟩ : ∃ zm, zm = ns.getD m 0 := ⟨_, rfl⟩
                      have CI : Hid (∀ w' : World, Keeps (fun _ => False) wr w' → w'.cell? ⟨g2, i, none⟩ = some (.int .i64 zi)) := fun w' hk' => by rw [unhide HZI]; exact hk'.cellOf (hcell i (by rw [← unhide HNE]; omega)) id
                      have CJ : Hid (∀ w' : World, Keeps (fun _ => False) wr w' → w'.cell? ⟨g2, m, none⟩ = some (.int .i64 zm)) := fun w' hk' => by rw [hzm]; exact hk'.cellOf (hcell m (by rw [← unhide HNE]; omega)) id
                      have HNB : Hid (nbB A.n fr ns i (m + 1) = (nbB A.n fr ns i m || (zm == zi))) := by rw [hzm, unhide HZI]; exact rfl
                      have m0 : (0 : Int) ≤ (m : Int) := by omega
                      have mN : (m : Int) < (N : Int) := by omega
                      have mi : (m : Int) < (i : Int) := by omega
                      clear hcell hzm hax2
                      cases hq : nbB A.n fr ns i m with
                      | true =>
                        rw [hq, Bool.true_or] at HNB
                        clear hq CI CJ
                        go_wp2_with fail
                        refine wp_region_noPanic ?_
                        refine wp_region_held_drew (S := fun w' => Keeps (fun _ => False) wr w') (by kernel_rfl) ((Keeps.refl _ _).drew) (fun hHeld => ?_)
                        refine take_at 0 136 (v := ?_) rfl rfl (by kernel_rfl) (by kernel_rfl) (by kernel_rfl) (Or.inl ⟨by rfl, ?_⟩) hHeld ?_
                        rotate_left
                        · intro w hSw; go_simp; with_reducible rfl
                        simp only [Act.put, List.setIfInBounds_toArray, List.set_cons_zero, List.set_cons_succ]
                        refine take_at 1 137 (v := ?_) rfl rfl (by kernel_rfl) (by kernel_rfl) (by kernel_rfl) (Or.inl ⟨by rfl, ?_⟩) hHeld ?_
                        rotate_left
                        · intro w hSw; go_simp; with_reducible rfl
                        simp only [Act.put, List.setIfInBounds_toArray, List.set_cons_zero, List.set_cons_succ]
                        refine take_at 2 138 rfl rfl (by kernel_rfl) (by kernel_rfl) (by kernel_rfl) (Or.inr ⟨by rfl, rfl⟩) hHeld ?_
                        simp only [Act.put, List.setIfInBounds_toArray, List.set_cons_zero, List.set_cons_succ]
                        refine take_at 3 139 rfl rfl (by kernel_rfl) (by kernel_rfl) (by kernel_rfl) (Or.inr ⟨by rfl, rfl⟩) hHeld ?_
                        simp only [Act.put, List.setIfInBounds_toArray, List.set_cons_zero, List.set_cons_succ]
                        refine take_at 4 140 rfl rfl (by kernel_rfl) (by kernel_rfl) (by kernel_rfl) (Or.inr ⟨by rfl, rfl⟩) hHeld ?_
                        simp only [Act.put, List.setIfInBounds_toArray, List.set_cons_zero, List.set_cons_succ]
                        refine take_at 5 141 rfl rfl (by kernel_rfl) (by kernel_rfl) (by kernel_rfl) (Or.inr ⟨by rfl, rfl⟩) hHeld ?_
                        simp only [Act.put, List.setIfInBounds_toArray, List.set_cons_zero, List.set_cons_succ]
                        refine take_at 6 142 rfl rfl (by kernel_rfl) (by kernel_rfl) (by kernel_rfl) (Or.inr ⟨by rfl, rfl⟩) hHeld ?_
                        simp only [Act.put, List.setIfInBounds_toArray, List.set_cons_zero, List.set_cons_succ]
                        refine take_at 7 143 rfl rfl (by kernel_rfl) (by kernel_rfl) (by kernel_rfl) (Or.inr ⟨by rfl, rfl⟩) hHeld ?_
                        simp only [Act.put, List.setIfInBounds_toArray, List.set_cons_zero, List.set_cons_succ]
                        refine take_at 8 144 rfl rfl (by kernel_rfl) (by kernel_rfl) (by kernel_rfl) (Or.inr ⟨by rfl, rfl⟩) hHeld ?_
                        simp only [Act.put, List.setIfInBounds_toArray, List.set_cons_zero, List.set_cons_succ]
                        refine take_at 9 145 rfl rfl (by kernel_rfl) (by kernel_rfl) (by kernel_rfl) (Or.inr ⟨by rfl, rfl⟩) hHeld ?_
                        simp only [Act.put, List.setIfInBounds_toArray, List.set_cons_zero, List.set_cons_succ]
                        refine take_at 10 146 rfl rfl (by kernel_rfl) (by kernel_rfl) (by kernel_rfl) (Or.inr ⟨by rfl, rfl⟩) hHeld ?_
                        simp only [Act.put, List.setIfInBounds_toArray, List.set_cons_zero, List.set_cons_succ]
                        refine take_at 11 147 (v := ?_) rfl rfl (by kernel_rfl) (by kernel_rfl) (by kernel_rfl) (Or.inl ⟨by rfl, ?_⟩) hHeld ?_
                        rotate_left
                        · intro w hSw; go_simp; with_reducible rfl
                        simp only [Act.put, List.setIfInBounds_toArray, List.set_cons_zero, List.set_cons_succ]
                        refine take_at 12 21 (v := ?_) rfl rfl (by kernel_rfl) (by kernel_rfl) (by kernel_rfl) (Or.inl ⟨by rfl, ?_⟩) hHeld ?_
                        rotate_left
                        · intro w hSw; go_simp; with_reducible rfl
                        simp only [Act.put, List.setIfInBounds_toArray, List.set_cons_zero, List.set_cons_succ]
                        refine wpAnyH_done (by kernel_rfl) ?_ _
                        refine NoPanic.normal ?_
                        have RS1 := hide ((unhide RS).keeps hHeld)
                        clear hHeld RS
                        go_wp2_with fail
                        go_roundw
                        case rel => exact ⟨m + 1, by omega, by rw [unhide HNB], by go_num, unhide RS1⟩
                        case measure => simp [intOf]; omega
                      | false =>
                        rw [hq, Bool.false_or] at HNB
                        clear hq
                        go_wp2_with fail
                        refine wp_region_noPanic ?_
                        refine wp_region_held_drew (S := fun w' => Keeps (fun _ => False) wr w') (by kernel_rfl) ((Keeps.refl _ _).drew) (fun hHeld => ?_)
                        refine take_at 0 136 (v := ?_) rfl rfl (by kernel_rfl) (by kernel_rfl) (by kernel_rfl) (Or.inl ⟨by rfl, ?_⟩) hHeld ?_
                        rotate_left
                        · intro w hSw; go_simp; with_reducible rfl
                        simp only [Act.put, List.setIfInBounds_toArray, List.set_cons_zero, List.set_cons_succ]
                        refine take_at 1 137 (v := ?_) rfl rfl (by kernel_rfl) (by kernel_rfl) (by kernel_rfl) (Or.inl ⟨by rfl, ?_⟩) hHeld ?_
                        rotate_left
                        · intro w hSw; go_simp; with_reducible rfl
                        simp only [Act.put, List.setIfInBounds_toArray, List.set_cons_zero, List.set_cons_succ]
                        refine take_at 2 138 (v := ?_) rfl rfl (by kernel_rfl) (by kernel_rfl) (by kernel_rfl) (Or.inl ⟨by rfl, ?_⟩) hHeld ?_
                        rotate_left
                        · intro w hSw; go_simp; with_reducible rfl
                        simp only [Act.put, List.setIfInBounds_toArray, List.set_cons_zero, List.set_cons_succ]
                        refine take_at 3 139 (v := ?_) rfl rfl (by kernel_rfl) (by kernel_rfl) (by kernel_rfl) (Or.inl ⟨by rfl, ?_⟩) hHeld ?_
                        rotate_left
                        · intro w hSw; go_simp; with_reducible rfl
                        simp only [Act.put, List.setIfInBounds_toArray, List.set_cons_zero, List.set_cons_succ]
                        refine take_at 4 140 (v := ?_) rfl rfl (by kernel_rfl) (by kernel_rfl) (by kernel_rfl) (Or.inl ⟨by rfl, ?_⟩) hHeld ?_
                        rotate_left
                        · intro w hSw; go_simp; with_reducible rfl
                        simp only [Act.put, List.setIfInBounds_toArray, List.set_cons_zero, List.set_cons_succ]
                        refine take_at 5 141 (v := ?_) rfl rfl (by kernel_rfl) (by kernel_rfl) (by kernel_rfl) (Or.inl ⟨by rfl, ?_⟩) hHeld ?_
                        rotate_left
                        · intro w hSw; have f := unhide CJ w hSw; go_simp; with_reducible rfl
                        simp only [Act.put, List.setIfInBounds_toArray, List.set_cons_zero, List.set_cons_succ]
                        refine take_at 6 142 (v := ?_) rfl rfl (by kernel_rfl) (by kernel_rfl) (by kernel_rfl) (Or.inl ⟨by rfl, ?_⟩) hHeld ?_
                        rotate_left
                        · intro w hSw; go_simp; with_reducible rfl
                        simp only [Act.put, List.setIfInBounds_toArray, List.set_cons_zero, List.set_cons_succ]
                        refine take_at 7 143 (v := ?_) rfl rfl (by kernel_rfl) (by kernel_rfl) (by kernel_rfl) (Or.inl ⟨by rfl, ?_⟩) hHeld ?_
                        rotate_left
                        · intro w hSw; go_simp; with_reducible rfl
                        simp only [Act.put, List.setIfInBounds_toArray, List.set_cons_zero, List.set_cons_succ]
                        refine take_at 8 144 (v := ?_) rfl rfl (by kernel_rfl) (by kernel_rfl) (by kernel_rfl) (Or.inl ⟨by rfl, ?_⟩) hHeld ?_
                        rotate_left
                        · intro w hSw; go_simp; with_reducible rfl
                        simp only [Act.put, List.setIfInBounds_toArray, List.set_cons_zero, List.set_cons_succ]
                        refine take_at 9 145 (v := ?_) rfl rfl (by kernel_rfl) (by kernel_rfl) (by kernel_rfl) (Or.inl ⟨by rfl, ?_⟩) hHeld ?_
                        rotate_left
                        · intro w hSw; have f := unhide CI w hSw; go_simp; with_reducible rfl
                        simp only [Act.put, List.setIfInBounds_toArray, List.set_cons_zero, List.set_cons_succ]
                        refine take_at 10 146 (v := ?_) rfl rfl (by kernel_rfl) (by kernel_rfl) (by kernel_rfl) (Or.inl ⟨by rfl, ?_⟩) hHeld ?_
                        rotate_left
                        · intro w hSw; go_simp; with_reducible rfl
                        simp only [Act.put, List.setIfInBounds_toArray, List.set_cons_zero, List.set_cons_succ]
                        refine take_at 11 147 (v := ?_) rfl rfl (by kernel_rfl) (by kernel_rfl) (by kernel_rfl) (Or.inl ⟨by rfl, ?_⟩) hHeld ?_
                        rotate_left
                        · intro w hSw; go_simp; with_reducible rfl
                        simp only [Act.put, List.setIfInBounds_toArray, List.set_cons_zero, List.set_cons_succ]
                        refine take_at 12 21 (v := ?_) rfl rfl (by kernel_rfl) (by kernel_rfl) (by kernel_rfl) (Or.inl ⟨by rfl, ?_⟩) hHeld ?_
                        rotate_left
                        · intro w hSw; go_simp; with_reducible rfl
                        simp only [Act.put, List.setIfInBounds_toArray, List.set_cons_zero, List.set_cons_succ]
                        refine wpAnyH_done (by kernel_rfl) ?_ _
                        refine NoPanic.normal ?_
                        have RS1 := hide ((unhide RS).keeps hHeld)
                        clear hHeld RS
                        go_wp2_with fail
                        go_roundw
                        case rel => exact ⟨m + 1, by omega, by rw [unhide HNB], by go_num, unhide RS1⟩
                        case measure => simp [intOf]; omega
                    · obtain rfl : m = i := by omega
                      cases hq : nbB A.n fr ns m m with
                      | true =>
                        have hlb := unhide HBAD m hlt3 hq
                        have HV := hide (unhide HNO hlb (unhide HON))
                        have HOUT : Hid (OutS w (w.heap.size + 1 + 1) (w.heap.size + 1 + 1 + 1) (tabA A root) zs7 wr) := (unhide RS).out _ _ _ _ (zrow 49) zs7 (zrow_len 49) rfl (by simp) (by simp) (by simp) (by simp)
                        clear hlb hq HNO RS HBAD HGOOD HGD HNE
                        have sA147 : (Try.prog.info? 24).map (·.size) = some (iv .i64 ((tabA A root))).toList.length := by rw [Array.length_toList]; exact s147o_of _ (tabA_len A root)
                        have sB7 : (Try.prog.info? 37).map (·.size) = some (iv .i64 (zs7)).toList.length := by rw [Array.length_toList]; exact s7_of _ lVB
                        go_wp2_with fail
                        refine wp_region_noPanic ?_
                        refine wp_region_held_drew (S := OutS w (w.heap.size + 1 + 1) (w.heap.size + 1 + 1 + 1) (tabA A root) zs7) (by kernel_rfl) (OutS.drew (unhide HOUT)) (fun hHeld => ?_)
                        clear HOUT
                        refine take_at 0 149 rfl rfl (by kernel_rfl) (by kernel_rfl) (by kernel_rfl) (yieldsIf_build0 (by rfl) 24 rfl _ build147o) hHeld ?_
                        simp only [Act.put, List.setIfInBounds_toArray, List.set_cons_zero, List.set_cons_succ]
                        refine take_at 1 150 rfl rfl (by kernel_rfl) (by kernel_rfl) (by kernel_rfl) (yieldsIf_load_mid (by rfl) 37 _ rfl (w.heap.size + 1 + 1 + 1) 0 rfl (iv .i64 zs7).toList _ (fun w' h => OutS.rB h) Try.underlying37 rfl sB7) hHeld ?_
                        simp only [Act.put, List.setIfInBounds_toArray, List.set_cons_zero, List.set_cons_succ]
                        obtain ⟨X0, x1, x2⟩ := hHeld.2.1
                        refine wpAnyH_ready (rs := [2]) (by kernel_rfl) (by simp) ?_
                        refine AllReadyH.cons rfl (fun K hK => ?_) AllReadyH.nil
                        refine (if_pos (by rfl)).mpr ?_
                        refine wp_store_row 24 (.tmp 6) (.tmp 149) rfl w.heap.size (iv .i64 (zrow 49)) rfl rfl _ _ x1 (s147o_of _ lRA) (by rw [x2, iv_size, lRA]) (iv_one _ _) ?_
                        refine hK.out _ _ (hHeld.one (by omega) (by omega) _ (by rw [iv_size, lRA])) (fun hNew => ?_)
                        have KA := hide (setRow_heap _ _ _ (iv .i64 (zrow 49)) _ _ x1)
                        clear hK K hHeld x1 x2
                        obtain ⟨Y0, y1, y2⟩ := hNew.2.2.1
                        refine wpAnyH_ready (rs := [3]) (by kernel_rfl) (by simp) ?_
                        refine AllReadyH.cons rfl (fun K hK => ?_) AllReadyH.nil
                        refine (if_pos (by rfl)).mpr ?_
                        refine wp_store_row 37 (.tmp 7) (.tmp 150) rfl (w.heap.size + 1) (iv .i64 (zs7)) rfl rfl _ _ y1 (s7_of _ lVB) (by rw [y2, iv_size, lVB]) (iv_one _ _) ?_
                        refine hK.out _ _ (hNew.two (by omega) (by omega) _ (by rw [iv_size, lVB])) (fun hHeld => ?_)
                        have KB := hide (setRow_heap _ _ _ (iv .i64 (zs7)) _ _ y1)
                        have KA2 := hide ((setRow_other _ (w.heap.size + 1) w.heap.size (iv .i64 (zs7)) (by omega)).trans (unhide KA))
                        clear hK K hNew y1 y2 KA
                        refine take_at 4 8 (v := ?_) rfl rfl (by kernel_rfl) (by kernel_rfl) (by kernel_rfl) (Or.inl ⟨by rfl, ?_⟩) hHeld ?_
                        rotate_left
                        · intro w hSw; go_simp; with_reducible rfl
                        simp only [Act.put, List.setIfInBounds_toArray, List.set_cons_zero, List.set_cons_succ]
                        refine wpAnyH_done (by kernel_rfl) ?_ _
                        refine NoPanic.normal ?_
                        have HF := hide hHeld.1
                        clear hHeld
                        go_wp2_with fail
                        refine bodyPost_ret (v := .tuple #[.agg (iv .i64 (zrow 49)), .agg (iv .i64 (zs7)), .int .i64 21]) (results_three Try.results23 _ _ w.heap.size (w.heap.size + 1) 24 37 (iv .i64 (zrow 49)) (iv .i64 (zs7)) (0, 0) (0, 0) _ _ _ rfl rfl rfl (unhide KA2) (unhide KB) Try.underlying24 rfl (s147o_of _ lRA) Try.underlying37 rfl (s7_of _ lVB)) rfl ?_
                        exact ⟨by rw [(unhide HV).1, (unhide HV).2.1, (unhide HV).2.2], unhide HF⟩
                      | false =>
                        have HGD2 : Hid (∀ j, j < m + 1 → nbB A.n fr ns j j = false) := fun j hj => by
                          by_cases e : j = m
                          · subst e; exact hq
                          · exact unhide HGD j (by omega)
                        clear hq
                        go_wp2_with fail
                        go_roundw
                        case rel => exact ⟨m + 1, by omega, by go_num, unhide RS, unhide HGD2⟩
                        case measure => simp [intOf]; omega
                · have hlf2 : decide (zi < fr) = false := by simpa using hlf
                  have HB0 : Hid (nbB A.n fr ns i 0 = decide ((A.n : Int) ≤ zi)) := by show _ = _; rw [unhide HNB0, hlf2]; rfl
                  go_wp2_with fail
                  refine wp_region_noPanic ?_
                  refine wp_region_held_drew (S := fun w' => Keeps (fun _ => False) wr w') (by kernel_rfl) ((Keeps.refl _ _).drew) (fun hHeld => ?_)
                  refine take_at 0 113 (v := ?_) rfl rfl (by kernel_rfl) (by kernel_rfl) (by kernel_rfl) (Or.inl ⟨by rfl, ?_⟩) hHeld ?_
                  rotate_left
                  · intro w hSw; go_simp; with_reducible rfl
                  simp only [Act.put, List.setIfInBounds_toArray, List.set_cons_zero, List.set_cons_succ]
                  refine take_at 1 114 (v := ?_) rfl rfl (by kernel_rfl) (by kernel_rfl) (by kernel_rfl) (Or.inl ⟨by rfl, ?_⟩) hHeld ?_
                  rotate_left
                  · intro w hSw; go_simp; with_reducible rfl
                  simp only [Act.put, List.setIfInBounds_toArray, List.set_cons_zero, List.set_cons_succ]
                  refine take_at 2 115 (v := ?_) rfl rfl (by kernel_rfl) (by kernel_rfl) (by kernel_rfl) (Or.inl ⟨by rfl, ?_⟩) hHeld ?_
                  rotate_left
                  · intro w hSw; go_simp; with_reducible rfl
                  simp only [Act.put, List.setIfInBounds_toArray, List.set_cons_zero, List.set_cons_succ]
                  refine take_at 3 116 (v := ?_) rfl rfl (by kernel_rfl) (by kernel_rfl) (by kernel_rfl) (Or.inl ⟨by rfl, ?_⟩) hHeld ?_
                  rotate_left
                  · intro w hSw; have f := unhide CI w hSw; go_simp; with_reducible rfl
                  simp only [Act.put, List.setIfInBounds_toArray, List.set_cons_zero, List.set_cons_succ]
                  refine take_at 4 117 (v := ?_) rfl rfl (by kernel_rfl) (by kernel_rfl) (by kernel_rfl) (Or.inl ⟨by rfl, ?_⟩) hHeld ?_
                  rotate_left
                  · intro w hSw; go_simp; with_reducible rfl
                  simp only [Act.put, List.setIfInBounds_toArray, List.set_cons_zero, List.set_cons_succ]
                  refine take_at 5 118 (v := ?_) rfl rfl (by kernel_rfl) (by kernel_rfl) (by kernel_rfl) (Or.inl ⟨by rfl, ?_⟩) hHeld ?_
                  rotate_left
                  · intro w hSw; have f : decide (zi < fr) = false := hlf2; go_simp; with_reducible rfl
                  simp only [Act.put, List.setIfInBounds_toArray, List.set_cons_zero, List.set_cons_succ]
                  refine take_at 6 119 (v := ?_) rfl rfl (by kernel_rfl) (by kernel_rfl) (by kernel_rfl) (Or.inl ⟨by rfl, ?_⟩) hHeld ?_
                  rotate_left
                  · intro w hSw; go_simp; with_reducible rfl
                  simp only [Act.put, List.setIfInBounds_toArray, List.set_cons_zero, List.set_cons_succ]
                  refine take_at 7 120 (v := ?_) rfl rfl (by kernel_rfl) (by kernel_rfl) (by kernel_rfl) (Or.inl ⟨by rfl, ?_⟩) hHeld ?_
                  rotate_left
                  · intro w hSw; go_simp; with_reducible rfl
                  simp only [Act.put, List.setIfInBounds_toArray, List.set_cons_zero, List.set_cons_succ]
                  refine take_at 8 121 (v := ?_) rfl rfl (by kernel_rfl) (by kernel_rfl) (by kernel_rfl) (Or.inl ⟨by rfl, ?_⟩) hHeld ?_
                  rotate_left
                  · intro w hSw; go_simp; with_reducible rfl
                  simp only [Act.put, List.setIfInBounds_toArray, List.set_cons_zero, List.set_cons_succ]
                  refine take_at 9 122 (v := ?_) rfl rfl (by kernel_rfl) (by kernel_rfl) (by kernel_rfl) (Or.inl ⟨by rfl, ?_⟩) hHeld ?_
                  rotate_left
                  · intro w hSw; go_simp; with_reducible rfl
                  simp only [Act.put, List.setIfInBounds_toArray, List.set_cons_zero, List.set_cons_succ]
                  refine take_at 10 123 (v := ?_) rfl rfl (by kernel_rfl) (by kernel_rfl) (by kernel_rfl) (Or.inl ⟨by rfl, ?_⟩) hHeld ?_
                  rotate_left
                  · intro w hSw; have f := unhide CI w hSw; go_simp; with_reducible rfl
                  simp only [Act.put, List.setIfInBounds_toArray, List.set_cons_zero, List.set_cons_succ]
                  refine take_at 11 124 (v := ?_) rfl rfl (by kernel_rfl) (by kernel_rfl) (by kernel_rfl) (Or.inl ⟨by rfl, ?_⟩) hHeld ?_
                  rotate_left
                  · intro w hSw; go_simp; with_reducible rfl
                  simp only [Act.put, List.setIfInBounds_toArray, List.set_cons_zero, List.set_cons_succ]
                  refine take_at 12 125 (v := ?_) rfl rfl (by kernel_rfl) (by kernel_rfl) (by kernel_rfl) (Or.inl ⟨by rfl, ?_⟩) hHeld ?_
                  rotate_left
                  · intro w hSw; go_simp; with_reducible rfl
                  simp only [Act.put, List.setIfInBounds_toArray, List.set_cons_zero, List.set_cons_succ]
                  refine take_at 13 126 (v := ?_) rfl rfl (by kernel_rfl) (by kernel_rfl) (by kernel_rfl) (Or.inl ⟨by rfl, ?_⟩) hHeld ?_
                  rotate_left
                  · intro w hSw; go_simp; with_reducible rfl
                  simp only [Act.put, List.setIfInBounds_toArray, List.set_cons_zero, List.set_cons_succ]
                  refine take_at 14 127 (v := ?_) rfl rfl (by kernel_rfl) (by kernel_rfl) (by kernel_rfl) (Or.inl ⟨by rfl, ?_⟩) hHeld ?_
                  rotate_left
                  · intro w hSw; have f := unhide CM w hSw; go_simp; with_reducible rfl
                  simp only [Act.put, List.setIfInBounds_toArray, List.set_cons_zero, List.set_cons_succ]
                  refine take_at 15 128 (v := ?_) rfl rfl (by kernel_rfl) (by kernel_rfl) (by kernel_rfl) (Or.inl ⟨by rfl, ?_⟩) hHeld ?_
                  rotate_left
                  · intro w hSw; go_simp; with_reducible rfl
                  simp only [Act.put, List.setIfInBounds_toArray, List.set_cons_zero, List.set_cons_succ]
                  refine take_at 16 129 (v := ?_) rfl rfl (by kernel_rfl) (by kernel_rfl) (by kernel_rfl) (Or.inl ⟨by rfl, ?_⟩) hHeld ?_
                  rotate_left
                  · intro w hSw; go_simp; with_reducible rfl
                  simp only [Act.put, List.setIfInBounds_toArray, List.set_cons_zero, List.set_cons_succ]
                  refine take_at 17 130 (v := ?_) rfl rfl (by kernel_rfl) (by kernel_rfl) (by kernel_rfl) (Or.inl ⟨by rfl, ?_⟩) hHeld ?_
                  rotate_left
                  · intro w hSw; go_simp; with_reducible rfl
                  simp only [Act.put, List.setIfInBounds_toArray, List.set_cons_zero, List.set_cons_succ]
                  refine take_at 18 21 (v := ?_) rfl rfl (by kernel_rfl) (by kernel_rfl) (by kernel_rfl) (Or.inl ⟨by rfl, ?_⟩) hHeld ?_
                  rotate_left
                  · intro w hSw; go_simp; with_reducible rfl
                  simp only [Act.put, List.setIfInBounds_toArray, List.set_cons_zero, List.set_cons_succ]
                  refine wpAnyH_done (by kernel_rfl) ?_ _
                  refine NoPanic.normal ?_
                  have RS1 := hide ((unhide RS).keeps hHeld)
                  clear hHeld RS
                  clear HNB0 hlf hlf2 CI CM
                  go_wp2_with fail
                  go_loopw [21, 22] (fun d c4 wr => ∃ m : Nat, m ≤ i ∧ d = .bool (nbB A.n fr ns i m) ∧ c4 = .int .i64 m ∧ RowSt w wr (.slice (some ⟨g, 0, none⟩) N cx) ns [(w.heap.size + 1 + 1, .cells (iv .i64 (tabA A root)) 24), (B12, .cells (C12) 27), (w.heap.size, .cells (iv .i64 (zrow 49)) 24), (w.heap.size + 1, .cells (iv .i64 zs7) 37), (w.heap.size + 1 + 1 + 1, .cells (iv .i64 zs7) 37), (B14, .cells (iv .i64 (lsA A root)) 37)]) (fun _ c4 _ => i - (intOf c4).toNat)
                  case atStart => exact ⟨0, by omega, by rw [unhide HB0], rfl, unhide RS1⟩
                  case round =>
                    clear RS1 HB0
                    obtain ⟨m, hm, rfl, rfl, rs⟩ := hrel
                    have RS := hide rs
                    clear rs
                    by_cases hlm : m < i
                    · obtain ⟨g2, hax2, hcell⟩ := rowX_at (unhide RS).2.1 (by rw [← unhide HNE]; omega)
                      obtain rfl : g2 = g := by simpa using hax2.symm
                      obtain ⟨zm, hzm⟩ : ∃ zm, zm = ns.getD m 0 := ⟨_, rfl⟩
                      have CI : Hid (∀ w' : World, Keeps (fun _ => False) wr w' → w'.cell? ⟨g2, i, none⟩ = some (.int .i64 zi)) := fun w' hk' => by rw [unhide HZI]; exact hk'.cellOf (hcell i (by rw [← unhide HNE]; omega)) id
                      have CJ : Hid (∀ w' : World, Keeps (fun _ => False) wr w' → w'.cell? ⟨g2, m, none⟩ = some (.int .i64 zm)) := fun w' hk' => by rw [hzm]; exact hk'.cellOf (hcell m (by rw [← unhide HNE]; omega)) id
                      have HNB : Hid (nbB A.n fr ns i (m + 1) = (nbB A.n fr ns i m || (zm == zi))) := by rw [hzm, unhide HZI]; exact rfl
                      have m0 : (0 : Int) ≤ (m : Int) := by omega
                      have mN : (m : Int) < (N : Int) := by omega
                      have mi : (m : Int) < (i : Int) := by omega
                      clear hcell hzm hax2
                      cases hq : nbB A.n fr ns i m with
                      | true =>
                        rw [hq, Bool.true_or] at HNB
                        clear hq CI CJ
                        go_wp2_with fail
                        refine wp_region_noPanic ?_
                        refine wp_region_held_drew (S := fun w' => Keeps (fun _ => False) wr w') (by kernel_rfl) ((Keeps.refl _ _).drew) (fun hHeld => ?_)
                        refine take_at 0 136 (v := ?_) rfl rfl (by kernel_rfl) (by kernel_rfl) (by kernel_rfl) (Or.inl ⟨by rfl, ?_⟩) hHeld ?_
                        rotate_left
                        · intro w hSw; go_simp; with_reducible rfl
                        simp only [Act.put, List.setIfInBounds_toArray, List.set_cons_zero, List.set_cons_succ]
                        refine take_at 1 137 (v := ?_) rfl rfl (by kernel_rfl) (by kernel_rfl) (by kernel_rfl) (Or.inl ⟨by rfl, ?_⟩) hHeld ?_
                        rotate_left
                        · intro w hSw; go_simp; with_reducible rfl
                        simp only [Act.put, List.setIfInBounds_toArray, List.set_cons_zero, List.set_cons_succ]
                        refine take_at 2 138 rfl rfl (by kernel_rfl) (by kernel_rfl) (by kernel_rfl) (Or.inr ⟨by rfl, rfl⟩) hHeld ?_
                        simp only [Act.put, List.setIfInBounds_toArray, List.set_cons_zero, List.set_cons_succ]
                        refine take_at 3 139 rfl rfl (by kernel_rfl) (by kernel_rfl) (by kernel_rfl) (Or.inr ⟨by rfl, rfl⟩) hHeld ?_
                        simp only [Act.put, List.setIfInBounds_toArray, List.set_cons_zero, List.set_cons_succ]
                        refine take_at 4 140 rfl rfl (by kernel_rfl) (by kernel_rfl) (by kernel_rfl) (Or.inr ⟨by rfl, rfl⟩) hHeld ?_
                        simp only [Act.put, List.setIfInBounds_toArray, List.set_cons_zero, List.set_cons_succ]
                        refine take_at 5 141 rfl rfl (by kernel_rfl) (by kernel_rfl) (by kernel_rfl) (Or.inr ⟨by rfl, rfl⟩) hHeld ?_
                        simp only [Act.put, List.setIfInBounds_toArray, List.set_cons_zero, List.set_cons_succ]
                        refine take_at 6 142 rfl rfl (by kernel_rfl) (by kernel_rfl) (by kernel_rfl) (Or.inr ⟨by rfl, rfl⟩) hHeld ?_
                        simp only [Act.put, List.setIfInBounds_toArray, List.set_cons_zero, List.set_cons_succ]
                        refine take_at 7 143 rfl rfl (by kernel_rfl) (by kernel_rfl) (by kernel_rfl) (Or.inr ⟨by rfl, rfl⟩) hHeld ?_
                        simp only [Act.put, List.setIfInBounds_toArray, List.set_cons_zero, List.set_cons_succ]
                        refine take_at 8 144 rfl rfl (by kernel_rfl) (by kernel_rfl) (by kernel_rfl) (Or.inr ⟨by rfl, rfl⟩) hHeld ?_
                        simp only [Act.put, List.setIfInBounds_toArray, List.set_cons_zero, List.set_cons_succ]
                        refine take_at 9 145 rfl rfl (by kernel_rfl) (by kernel_rfl) (by kernel_rfl) (Or.inr ⟨by rfl, rfl⟩) hHeld ?_
                        simp only [Act.put, List.setIfInBounds_toArray, List.set_cons_zero, List.set_cons_succ]
                        refine take_at 10 146 rfl rfl (by kernel_rfl) (by kernel_rfl) (by kernel_rfl) (Or.inr ⟨by rfl, rfl⟩) hHeld ?_
                        simp only [Act.put, List.setIfInBounds_toArray, List.set_cons_zero, List.set_cons_succ]
                        refine take_at 11 147 (v := ?_) rfl rfl (by kernel_rfl) (by kernel_rfl) (by kernel_rfl) (Or.inl ⟨by rfl, ?_⟩) hHeld ?_
                        rotate_left
                        · intro w hSw; go_simp; with_reducible rfl
                        simp only [Act.put, List.setIfInBounds_toArray, List.set_cons_zero, List.set_cons_succ]
                        refine take_at 12 21 (v := ?_) rfl rfl (by kernel_rfl) (by kernel_rfl) (by kernel_rfl) (Or.inl ⟨by rfl, ?_⟩) hHeld ?_
                        rotate_left
                        · intro w hSw; go_simp; with_reducible rfl
                        simp only [Act.put, List.setIfInBounds_toArray, List.set_cons_zero, List.set_cons_succ]
                        refine wpAnyH_done (by kernel_rfl) ?_ _
                        refine NoPanic.normal ?_
                        have RS1 := hide ((unhide RS).keeps hHeld)
                        clear hHeld RS
                        go_wp2_with fail
                        go_roundw
                        case rel => exact ⟨m + 1, by omega, by rw [unhide HNB], by go_num, unhide RS1⟩
                        case measure => simp [intOf]; omega
                      | false =>
                        rw [hq, Bool.false_or] at HNB
                        clear hq
                        go_wp2_with fail
                        refine wp_region_noPanic ?_
                        refine wp_region_held_drew (S := fun w' => Keeps (fun _ => False) wr w') (by kernel_rfl) ((Keeps.refl _ _).drew) (fun hHeld => ?_)
                        refine take_at 0 136 (v := ?_) rfl rfl (by kernel_rfl) (by kernel_rfl) (by kernel_rfl) (Or.inl ⟨by rfl, ?_⟩) hHeld ?_
                        rotate_left
                        · intro w hSw; go_simp; with_reducible rfl
                        simp only [Act.put, List.setIfInBounds_toArray, List.set_cons_zero, List.set_cons_succ]
                        refine take_at 1 137 (v := ?_) rfl rfl (by kernel_rfl) (by kernel_rfl) (by kernel_rfl) (Or.inl ⟨by rfl, ?_⟩) hHeld ?_
                        rotate_left
                        · intro w hSw; go_simp; with_reducible rfl
                        simp only [Act.put, List.setIfInBounds_toArray, List.set_cons_zero, List.set_cons_succ]
                        refine take_at 2 138 (v := ?_) rfl rfl (by kernel_rfl) (by kernel_rfl) (by kernel_rfl) (Or.inl ⟨by rfl, ?_⟩) hHeld ?_
                        rotate_left
                        · intro w hSw; go_simp; with_reducible rfl
                        simp only [Act.put, List.setIfInBounds_toArray, List.set_cons_zero, List.set_cons_succ]
                        refine take_at 3 139 (v := ?_) rfl rfl (by kernel_rfl) (by kernel_rfl) (by kernel_rfl) (Or.inl ⟨by rfl, ?_⟩) hHeld ?_
                        rotate_left
                        · intro w hSw; go_simp; with_reducible rfl
                        simp only [Act.put, List.setIfInBounds_toArray, List.set_cons_zero, List.set_cons_succ]
                        refine take_at 4 140 (v := ?_) rfl rfl (by kernel_rfl) (by kernel_rfl) (by kernel_rfl) (Or.inl ⟨by rfl, ?_⟩) hHeld ?_
                        rotate_left
                        · intro w hSw; go_simp; with_reducible rfl
                        simp only [Act.put, List.setIfInBounds_toArray, List.set_cons_zero, List.set_cons_succ]
                        refine take_at 5 141 (v := ?_) rfl rfl (by kernel_rfl) (by kernel_rfl) (by kernel_rfl) (Or.inl ⟨by rfl, ?_⟩) hHeld ?_
                        rotate_left
                        · intro w hSw; have f := unhide CJ w hSw; go_simp; with_reducible rfl
                        simp only [Act.put, List.setIfInBounds_toArray, List.set_cons_zero, List.set_cons_succ]
                        refine take_at 6 142 (v := ?_) rfl rfl (by kernel_rfl) (by kernel_rfl) (by kernel_rfl) (Or.inl ⟨by rfl, ?_⟩) hHeld ?_
                        rotate_left
                        · intro w hSw; go_simp; with_reducible rfl
                        simp only [Act.put, List.setIfInBounds_toArray, List.set_cons_zero, List.set_cons_succ]
                        refine take_at 7 143 (v := ?_) rfl rfl (by kernel_rfl) (by kernel_rfl) (by kernel_rfl) (Or.inl ⟨by rfl, ?_⟩) hHeld ?_
                        rotate_left
                        · intro w hSw; go_simp; with_reducible rfl
                        simp only [Act.put, List.setIfInBounds_toArray, List.set_cons_zero, List.set_cons_succ]
                        refine take_at 8 144 (v := ?_) rfl rfl (by kernel_rfl) (by kernel_rfl) (by kernel_rfl) (Or.inl ⟨by rfl, ?_⟩) hHeld ?_
                        rotate_left
                        · intro w hSw; go_simp; with_reducible rfl
                        simp only [Act.put, List.setIfInBounds_toArray, List.set_cons_zero, List.set_cons_succ]
                        refine take_at 9 145 (v := ?_) rfl rfl (by kernel_rfl) (by kernel_rfl) (by kernel_rfl) (Or.inl ⟨by rfl, ?_⟩) hHeld ?_
                        rotate_left
                        · intro w hSw; have f := unhide CI w hSw; go_simp; with_reducible rfl
                        simp only [Act.put, List.setIfInBounds_toArray, List.set_cons_zero, List.set_cons_succ]
                        refine take_at 10 146 (v := ?_) rfl rfl (by kernel_rfl) (by kernel_rfl) (by kernel_rfl) (Or.inl ⟨by rfl, ?_⟩) hHeld ?_
                        rotate_left
                        · intro w hSw; go_simp; with_reducible rfl
                        simp only [Act.put, List.setIfInBounds_toArray, List.set_cons_zero, List.set_cons_succ]
                        refine take_at 11 147 (v := ?_) rfl rfl (by kernel_rfl) (by kernel_rfl) (by kernel_rfl) (Or.inl ⟨by rfl, ?_⟩) hHeld ?_
                        rotate_left
                        · intro w hSw; go_simp; with_reducible rfl
                        simp only [Act.put, List.setIfInBounds_toArray, List.set_cons_zero, List.set_cons_succ]
                        refine take_at 12 21 (v := ?_) rfl rfl (by kernel_rfl) (by kernel_rfl) (by kernel_rfl) (Or.inl ⟨by rfl, ?_⟩) hHeld ?_
                        rotate_left
                        · intro w hSw; go_simp; with_reducible rfl
                        simp only [Act.put, List.setIfInBounds_toArray, List.set_cons_zero, List.set_cons_succ]
                        refine wpAnyH_done (by kernel_rfl) ?_ _
                        refine NoPanic.normal ?_
                        have RS1 := hide ((unhide RS).keeps hHeld)
                        clear hHeld RS
                        go_wp2_with fail
                        go_roundw
                        case rel => exact ⟨m + 1, by omega, by rw [unhide HNB], by go_num, unhide RS1⟩
                        case measure => simp [intOf]; omega
                    · obtain rfl : m = i := by omega
                      cases hq : nbB A.n fr ns m m with
                      | true =>
                        have hlb := unhide HBAD m hlt3 hq
                        have HV := hide (unhide HNO hlb (unhide HON))
                        have HOUT : Hid (OutS w (w.heap.size + 1 + 1) (w.heap.size + 1 + 1 + 1) (tabA A root) zs7 wr) := (unhide RS).out _ _ _ _ (zrow 49) zs7 (zrow_len 49) rfl (by simp) (by simp) (by simp) (by simp)
                        clear hlb hq HNO RS HBAD HGOOD HGD HNE
                        have sA147 : (Try.prog.info? 24).map (·.size) = some (iv .i64 ((tabA A root))).toList.length := by rw [Array.length_toList]; exact s147o_of _ (tabA_len A root)
                        have sB7 : (Try.prog.info? 37).map (·.size) = some (iv .i64 (zs7)).toList.length := by rw [Array.length_toList]; exact s7_of _ lVB
                        go_wp2_with fail
                        refine wp_region_noPanic ?_
                        refine wp_region_held_drew (S := OutS w (w.heap.size + 1 + 1) (w.heap.size + 1 + 1 + 1) (tabA A root) zs7) (by kernel_rfl) (OutS.drew (unhide HOUT)) (fun hHeld => ?_)
                        clear HOUT
                        refine take_at 0 149 rfl rfl (by kernel_rfl) (by kernel_rfl) (by kernel_rfl) (yieldsIf_build0 (by rfl) 24 rfl _ build147o) hHeld ?_
                        simp only [Act.put, List.setIfInBounds_toArray, List.set_cons_zero, List.set_cons_succ]
                        refine take_at 1 150 rfl rfl (by kernel_rfl) (by kernel_rfl) (by kernel_rfl) (yieldsIf_load_mid (by rfl) 37 _ rfl (w.heap.size + 1 + 1 + 1) 0 rfl (iv .i64 zs7).toList _ (fun w' h => OutS.rB h) Try.underlying37 rfl sB7) hHeld ?_
                        simp only [Act.put, List.setIfInBounds_toArray, List.set_cons_zero, List.set_cons_succ]
                        obtain ⟨X0, x1, x2⟩ := hHeld.2.1
                        refine wpAnyH_ready (rs := [2]) (by kernel_rfl) (by simp) ?_
                        refine AllReadyH.cons rfl (fun K hK => ?_) AllReadyH.nil
                        refine (if_pos (by rfl)).mpr ?_
                        refine wp_store_row 24 (.tmp 6) (.tmp 149) rfl w.heap.size (iv .i64 (zrow 49)) rfl rfl _ _ x1 (s147o_of _ lRA) (by rw [x2, iv_size, lRA]) (iv_one _ _) ?_
                        refine hK.out _ _ (hHeld.one (by omega) (by omega) _ (by rw [iv_size, lRA])) (fun hNew => ?_)
                        have KA := hide (setRow_heap _ _ _ (iv .i64 (zrow 49)) _ _ x1)
                        clear hK K hHeld x1 x2
                        obtain ⟨Y0, y1, y2⟩ := hNew.2.2.1
                        refine wpAnyH_ready (rs := [3]) (by kernel_rfl) (by simp) ?_
                        refine AllReadyH.cons rfl (fun K hK => ?_) AllReadyH.nil
                        refine (if_pos (by rfl)).mpr ?_
                        refine wp_store_row 37 (.tmp 7) (.tmp 150) rfl (w.heap.size + 1) (iv .i64 (zs7)) rfl rfl _ _ y1 (s7_of _ lVB) (by rw [y2, iv_size, lVB]) (iv_one _ _) ?_
                        refine hK.out _ _ (hNew.two (by omega) (by omega) _ (by rw [iv_size, lVB])) (fun hHeld => ?_)
                        have KB := hide (setRow_heap _ _ _ (iv .i64 (zs7)) _ _ y1)
                        have KA2 := hide ((setRow_other _ (w.heap.size + 1) w.heap.size (iv .i64 (zs7)) (by omega)).trans (unhide KA))
                        clear hK K hNew y1 y2 KA
                        refine take_at 4 8 (v := ?_) rfl rfl (by kernel_rfl) (by kernel_rfl) (by kernel_rfl) (Or.inl ⟨by rfl, ?_⟩) hHeld ?_
                        rotate_left
                        · intro w hSw; go_simp; with_reducible rfl
                        simp only [Act.put, List.setIfInBounds_toArray, List.set_cons_zero, List.set_cons_succ]
                        refine wpAnyH_done (by kernel_rfl) ?_ _
                        refine NoPanic.normal ?_
                        have HF := hide hHeld.1
                        clear hHeld
                        go_wp2_with fail
                        refine bodyPost_ret (v := .tuple #[.agg (iv .i64 (zrow 49)), .agg (iv .i64 (zs7)), .int .i64 21]) (results_three Try.results23 _ _ w.heap.size (w.heap.size + 1) 24 37 (iv .i64 (zrow 49)) (iv .i64 (zs7)) (0, 0) (0, 0) _ _ _ rfl rfl rfl (unhide KA2) (unhide KB) Try.underlying24 rfl (s147o_of _ lRA) Try.underlying37 rfl (s7_of _ lVB)) rfl ?_
                        exact ⟨by rw [(unhide HV).1, (unhide HV).2.1, (unhide HV).2.2], unhide HF⟩
                      | false =>
                        have HGD2 : Hid (∀ j, j < m + 1 → nbB A.n fr ns j j = false) := fun j hj => by
                          by_cases e : j = m
                          · subst e; exact hq
                          · exact unhide HGD j (by omega)
                        clear hq
                        go_wp2_with fail
                        go_roundw
                        case rel => exact ⟨m + 1, by omega, by go_num, unhide RS, unhide HGD2⟩
                        case measure => simp [intOf]; omega
              · obtain rfl : i = N := by omega
                have hlb := unhide HGOOD (unhide HGD)
                have HV : Hid (ldT A fr root = tabA A root ∧ ldL A fr root = lsA A root ∧ ldE A fr root = 0) := by show _ ∧ _; unfold ldT ldL ldE; rw [unhide HON, hlb]; simp
                have HOUT : Hid (OutS w (w.heap.size + 1 + 1) B14 (tabA A root) (lsA A root) wr) := (unhide RS).out _ _ _ _ (zrow 49) zs7 (zrow_len 49) rfl (by simp) (by simp) (by simp) (by simp)
                have lVA3 : (tabA A root).length = 147 := tabA_len _ _
                have lVB3 : (lsA A root).length = 7 := lsA_len _ _
                clear hlb HNO HOUT1 RS HBAD HGOOD HGD HNE
                have sA147 : (Try.prog.info? 24).map (·.size) = some (iv .i64 ((tabA A root))).toList.length := by rw [Array.length_toList]; exact s147o_of _ lVA3
                have sB7 : (Try.prog.info? 37).map (·.size) = some (iv .i64 ((lsA A root))).toList.length := by rw [Array.length_toList]; exact s7_of _ lVB3
                go_wp2_with fail
                refine wp_region_noPanic ?_
                refine wp_region_held_drew (S := OutS w (w.heap.size + 1 + 1) B14 (tabA A root) (lsA A root)) (by kernel_rfl) (OutS.drew (unhide HOUT)) (fun hHeld => ?_)
                clear HOUT
                refine take_at 0 151 rfl rfl (by kernel_rfl) (by kernel_rfl) (by kernel_rfl) (yieldsIf_load_mid (by rfl) 24 _ rfl (w.heap.size + 1 + 1) 0 rfl (iv .i64 ((tabA A root))).toList _ (fun w' h => OutS.rA h) Try.underlying24 rfl sA147) hHeld ?_
                simp only [Act.put, List.setIfInBounds_toArray, List.set_cons_zero, List.set_cons_succ]
                refine take_at 1 152 rfl rfl (by kernel_rfl) (by kernel_rfl) (by kernel_rfl) (yieldsIf_load_mid (by rfl) 37 _ rfl B14 0 rfl (iv .i64 (lsA A root)).toList _ (fun w' h => OutS.rB h) Try.underlying37 rfl sB7) hHeld ?_
                simp only [Act.put, List.setIfInBounds_toArray, List.set_cons_zero, List.set_cons_succ]
                obtain ⟨X0, x1, x2⟩ := hHeld.2.1
                refine wpAnyH_ready (rs := [2]) (by kernel_rfl) (by simp) ?_
                refine AllReadyH.cons rfl (fun K hK => ?_) AllReadyH.nil
                refine (if_pos (by rfl)).mpr ?_
                refine wp_store_row 24 (.tmp 6) (.tmp 151) rfl w.heap.size (iv .i64 (tabA A root)) rfl rfl _ _ x1 (s147o_of _ lVA3) (by rw [x2, iv_size, lVA3]) (iv_one _ _) ?_
                refine hK.out _ _ (hHeld.one (by omega) (by omega) _ (by rw [iv_size, lVA3])) (fun hNew => ?_)
                have KA := hide (setRow_heap _ _ _ (iv .i64 (tabA A root)) _ _ x1)
                clear hK K hHeld x1 x2
                obtain ⟨Y0, y1, y2⟩ := hNew.2.2.1
                refine wpAnyH_ready (rs := [3]) (by kernel_rfl) (by simp) ?_
                refine AllReadyH.cons rfl (fun K hK => ?_) AllReadyH.nil
                refine (if_pos (by rfl)).mpr ?_
                refine wp_store_row 37 (.tmp 7) (.tmp 152) rfl (w.heap.size + 1) (iv .i64 ((lsA A root))) rfl rfl _ _ y1 (s7_of _ lVB3) (by rw [y2, iv_size, lVB3]) (iv_one _ _) ?_
                refine hK.out _ _ (hNew.two (by omega) (by omega) _ (by rw [iv_size, lVB3])) (fun hHeld => ?_)
                have KB := hide (setRow_heap _ _ _ (iv .i64 ((lsA A root))) _ _ y1)
                have KA2 := hide ((setRow_other _ (w.heap.size + 1) w.heap.size (iv .i64 ((lsA A root))) (by omega)).trans (unhide KA))
                clear hK K hNew y1 y2 KA
                refine take_at 4 8 (v := ?_) rfl rfl (by kernel_rfl) (by kernel_rfl) (by kernel_rfl) (Or.inl ⟨by rfl, ?_⟩) hHeld ?_
                rotate_left
                · intro w hSw; go_simp; with_reducible rfl
                simp only [Act.put, List.setIfInBounds_toArray, List.set_cons_zero, List.set_cons_succ]
                refine wpAnyH_done (by kernel_rfl) ?_ _
                refine NoPanic.normal ?_
                have HF := hide hHeld.1
                clear hHeld
                go_wp2_with fail
                refine bodyPost_ret (v := .tuple #[.agg (iv .i64 (tabA A root)), .agg (iv .i64 ((lsA A root))), .int .i64 0]) (results_three Try.results23 _ _ w.heap.size (w.heap.size + 1) 24 37 (iv .i64 (tabA A root)) (iv .i64 ((lsA A root))) (0, 0) (0, 0) _ _ _ rfl rfl rfl (unhide KA2) (unhide KB) Try.underlying24 rfl (s147o_of _ lVA3) Try.underlying37 rfl (s7_of _ lVB3)) rfl ?_
                exact ⟨by rw [(unhide HV).1, (unhide HV).2.1, (unhide HV).2.2], unhide HF⟩
    · have hlb : loadB A fr root = false := bool_not fun hh => by
        have := okN_mem ((loadB_iff A fr root).1 hh).1.1 (z := root) (by simp)
        exact hr ⟨this.1, this.2.2⟩
      have HV := hide (unhide HNO hlb hon)
      have HOUT := HOUT1
      rw [rowZ_out A root hr]
      clear hlb hr hon HNO HOUT1 RS2
      have sA147 : (Try.prog.info? 24).map (·.size) = some (iv .i64 ((zrow 49))).toList.length := by rw [Array.length_toList]; exact s147o_of _ lVA
      have sB7 : (Try.prog.info? 37).map (·.size) = some (iv .i64 (zs7)).toList.length := by rw [Array.length_toList]; exact s7_of _ lVB
      go_wp2_with fail
      refine wp_region_noPanic ?_
      refine wp_region_held_drew (S := OutS w (w.heap.size + 1 + 1) (w.heap.size + 1 + 1 + 1) (zrow 49) zs7) (by kernel_rfl) (OutS.drew (unhide HOUT)) (fun hHeld => ?_)
      clear HOUT
      refine take_at 0 50 rfl rfl (by kernel_rfl) (by kernel_rfl) (by kernel_rfl) (yieldsIf_load_mid (by rfl) 24 _ rfl (w.heap.size + 1 + 1) 0 rfl (iv .i64 ((zrow 49))).toList _ (fun w' h => OutS.rA h) Try.underlying24 rfl sA147) hHeld ?_
      simp only [Act.put, List.setIfInBounds_toArray, List.set_cons_zero, List.set_cons_succ]
      refine take_at 1 51 rfl rfl (by kernel_rfl) (by kernel_rfl) (by kernel_rfl) (yieldsIf_load_mid (by rfl) 37 _ rfl (w.heap.size + 1 + 1 + 1) 0 rfl (iv .i64 zs7).toList _ (fun w' h => OutS.rB h) Try.underlying37 rfl sB7) hHeld ?_
      simp only [Act.put, List.setIfInBounds_toArray, List.set_cons_zero, List.set_cons_succ]
      obtain ⟨X0, x1, x2⟩ := hHeld.2.1
      refine wpAnyH_ready (rs := [2]) (by kernel_rfl) (by simp) ?_
      refine AllReadyH.cons rfl (fun K hK => ?_) AllReadyH.nil
      refine (if_pos (by rfl)).mpr ?_
      refine wp_store_row 24 (.tmp 6) (.tmp 50) rfl w.heap.size (iv .i64 (zrow 49)) rfl rfl _ _ x1 (s147o_of _ lRA) (by rw [x2, iv_size, lRA]) (iv_one _ _) ?_
      refine hK.out _ _ (hHeld.one (by omega) (by omega) _ (by rw [iv_size, lRA])) (fun hNew => ?_)
      have KA := hide (setRow_heap _ _ _ (iv .i64 (zrow 49)) _ _ x1)
      clear hK K hHeld x1 x2
      obtain ⟨Y0, y1, y2⟩ := hNew.2.2.1
      refine wpAnyH_ready (rs := [3]) (by kernel_rfl) (by simp) ?_
      refine AllReadyH.cons rfl (fun K hK => ?_) AllReadyH.nil
      refine (if_pos (by rfl)).mpr ?_
      refine wp_store_row 37 (.tmp 7) (.tmp 51) rfl (w.heap.size + 1) (iv .i64 (zs7)) rfl rfl _ _ y1 (s7_of _ lVB) (by rw [y2, iv_size, lVB]) (iv_one _ _) ?_
      refine hK.out _ _ (hNew.two (by omega) (by omega) _ (by rw [iv_size, lVB])) (fun hHeld => ?_)
      have KB := hide (setRow_heap _ _ _ (iv .i64 (zs7)) _ _ y1)
      have KA2 := hide ((setRow_other _ (w.heap.size + 1) w.heap.size (iv .i64 (zs7)) (by omega)).trans (unhide KA))
      clear hK K hNew y1 y2 KA
      refine take_at 4 8 (v := ?_) rfl rfl (by kernel_rfl) (by kernel_rfl) (by kernel_rfl) (Or.inl ⟨by rfl, ?_⟩) hHeld ?_
      rotate_left
      · intro w hSw; go_simp; with_reducible rfl
      simp only [Act.put, List.setIfInBounds_toArray, List.set_cons_zero, List.set_cons_succ]
      refine wpAnyH_done (by kernel_rfl) ?_ _
      refine NoPanic.normal ?_
      have HF := hide hHeld.1
      clear hHeld
      go_wp2_with fail
      refine bodyPost_ret (v := .tuple #[.agg (iv .i64 (zrow 49)), .agg (iv .i64 (zs7)), .int .i64 21]) (results_three Try.results23 _ _ w.heap.size (w.heap.size + 1) 24 37 (iv .i64 (zrow 49)) (iv .i64 (zs7)) (0, 0) (0, 0) _ _ _ rfl rfl rfl (unhide KA2) (unhide KB) Try.underlying24 rfl (s147o_of _ lRA) Try.underlying37 rfl (s7_of _ lVB)) rfl ?_
      exact ⟨by rw [(unhide HV).1, (unhide HV).2.1, (unhide HV).2.2], unhide HF⟩

end Go.Proofs.Ytnjicfnigfkppaa
