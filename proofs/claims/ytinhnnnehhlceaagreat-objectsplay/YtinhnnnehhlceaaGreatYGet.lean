
/-
  The document's Get.
-/
import Derived.Test.YtinhnnnehhlceaaGreatYHas
import Derived.Test.YtinhnnnehhlceaaGreatPkTel
namespace Go.Proofs.YtinhnnnehhlceaaGreat
open Go.ChangeShapes Go.WideShapes Go.ChangeAt Go.RowKit Go.Joins
set_option maxRecDepth 10000
set_option linter.unusedVariables false
set_option linter.unusedSimpArgs false

theorem yieldsIf_build3 {P : Program} {ops : Array Oper} {S : World → Prop} {op : Oper} {a : Act} (hw : Region.wanted op (yielded ops a.tmps) = true) (t : TypeId) (x0 x1 x2 : Operand) (ho : op.op = .build t #[(0, x0), (1, x1), (2, x2)])
    (u0 u1 u2 : Value) (h0 : a.eval x0 = u0) (h1 : a.eval x1 = u1) (h2 : a.eval x2 = u2) (cs : Array Value) (hb : P.built t [(0, u0), (1, u1), (2, u2)] = some cs) : YieldsIf P ops S op (.agg cs) a :=
  Or.inl ⟨hw, fun w _ => by
    have h := run_build (P := P) w t #[(0, u0), (1, u1), (2, u2)] cs hb
    unfold execOp
    simp [ho, h0, h1, h2, Sem.run_bind, h]⟩

theorem yget_none {W w : World} {z y f g : Nat} {St : Mm → World → (Nat → Prop) → Prop} {S : Sto} {K : Nat → En} {A : Mm} {G : Nat → Prop} (M : MemR W z St) (h : YHas W z y f g St S K A w G) (x : Int) (hf : S.findE x ≠ 0) :
    Calls Tryz.prog 58 #[.pointer (some ⟨y, 0, none⟩), .int .i64 x] w (Done (YHas W z y f g St S K A) w G (getT S A x)) := by
  have T0 := hide (YHas.stay M y f g S K A)
  have O0 := hide ((Held.start (unhide T0) h).alloc (unhide T0) (.cells (obV 0 0 fun _ => 0) 87))
  have CF := hide (yis_any (unhide O0).st.rep x)
  have hfb : (S.findE x != 0) = true := by simpa using hf
  have HV : Hid (getT S A x = .tuple #[.agg (obV 0 0 fun _ => 0), .int .i64 (S.findE x)]) := by
    have e : S.getE A x = S.findE x := if_neg hf
    show getT S A x = _
    unfold getT Sto.getV; rw [e, if_neg hf]
  have s10 := s10_ob 0 0 fun _ => 0
  have Z0 := hide zero_ob
  have B0 := hide build_ob0
  have X1 := hide (obV_one 0 0 fun _ => 0)
  clear hf h
  generalize (obV 0 0 fun _ => 0) = ZO at *
  generalize S.findE x = E at *
  go_enter Tryz.func58, Tryz.ntmps58
  go_wp2_with (with_reducible refine wpList_allocZ (by with_unfolding_all rfl) 87 (by with_unfolding_all rfl) ZO (unhide Z0) ?_)
  refine (unhide CF).mono ?_
  rintro e w1 ⟨rfl, hw1⟩
  subst hw1
  obtain ⟨g4, hg4⟩ : ∃ g4, g4 = w.heap.size := ⟨_, rfl⟩
  rw [← hg4] at O0 ⊢
  clear CF hg4
  go_upto_region 3 with fail
  generalize w.alloc (.cells ZO 87) = w2 at *
  have K1 := hide ((unhide O0).at g4 (.cells ZO 87) (by simp))
  have K2 : Hid ((w2.setRow g4 ZO).heap[g4]? = some (.cells ZO 87 (0, 0))) := setRow_heap _ _ _ _ _ _ (unhide K1)
  go_wp2_with (first | (with_reducible refine wpList_build0 (by with_unfolding_all rfl) 87 (by with_unfolding_all rfl) ZO (unhide B0) ?_) | (with_reducible refine wpList_store_row (by with_unfolding_all rfl) 87 _ _ (by with_unfolding_all rfl) g4 ZO (by with_unfolding_all rfl) (by with_unfolding_all rfl) _ _ (unhide K1) s10 rfl (unhide X1) ?_))
  refine bodyPost_ret (v := .tuple #[.agg ZO, .int .i64 E]) (results_two Tryz.results58 _ _ g4 87 ZO (0, 0) _ _ rfl rfl (unhide K2) Tryz.underlying87 rfl s10) rfl ?_
  rw [unhide HV]
  have OT := (unhide O0).row (unhide T0) g4 ZO 87 (0, 0) (by simp) ZO
  exact OT.done (unhide T0) _

set_option maxHeartbeats 4000000 in
theorem yget_dark {W w : World} {z y f g : Nat} {St : Mm → World → (Nat → Prop) → Prop} {S : Sto} {K : Nat → En} {A : Mm} {G : Nat → Prop} (M : MemR W z St) (h : YHas W z y f g St S K A w G) (hA : A.ok 1000) (x : Int) (hf : S.findE x = 0) (hle : A.loadE (S.line x) ≠ 0) :
    Calls Tryz.prog 58 #[.pointer (some ⟨y, 0, none⟩), .int .i64 x] w (Done (YHas W z y f g St S K A) w G (getT S A x)) := by
  have hok1 := hide hA
  have T0 := hide (YHas.stay M y f g S K A)
  have O0 := hide ((Held.start (unhide T0) h).alloc (unhide T0) (.cells (obV 0 0 fun _ => 0) 87))
  have hz := findE_ok hf
  obtain ⟨i, rfl⟩ : ∃ i : Nat, x = (i : Int) := ⟨x.toNat, by omega⟩
  have hi : i < 49 := by omega
  have hi1 : (i : Int) < 49 := by omega
  obtain ⟨k, v0, l, hx⟩ : ∃ k v0 l, S.w i = ⟨k, v0, l⟩ := ⟨_, _, _, rfl⟩
  have eL : S.line (i : Int) = l := by unfold Sto.line; rw [Int.toNat_natCast, hx]
  have CF := hide (yis_any (unhide O0).st.rep (i : Int))
  rw [hf] at CF
  have CEN : Hid (∀ w', YRep z f S K w' y → w'.cell? ⟨y, 2 + i * 3, none⟩ = some (.int .i64 k) ∧ w'.cell? ⟨y, 2 + i * 3 + 1, none⟩ = some (.int .i64 v0) ∧ w'.cell? ⟨y, 2 + i * 3 + 2, none⟩ = some (.int .i64 l)) := fun w' h' => by
    have a1 := h'.ck i hi
    have a2 := h'.cv i hi
    have a3 := h'.cl i hi
    rw [hx] at a1 a2 a3
    exact ⟨a1, a2, a3⟩
  rw [eL] at hle
  have eE : S.getE A (i : Int) = A.loadE l := by unfold Sto.getE; rw [if_pos hf, eL]
  obtain ⟨E, hE⟩ : ∃ E, A.loadE l = E := ⟨_, rfl⟩
  rw [hE] at hle eE
  have HV : Hid (getT S A (i : Int) = .tuple #[.agg (obV 0 0 fun _ => 0), .int .i64 E]) := by
    show getT S A (i : Int) = _
    unfold getT Sto.getV; rw [eE, if_neg hle]
  have hE1 : (E != 0) = true := by simpa using hle
  clear hle
  have hle := hE
  have S10 := hide (s10_ob 0 0 fun _ => 0)
  have Z0 := hide zero_ob
  have B0 := hide build_ob0
  have X1 := hide (obV_one 0 0 fun _ => 0)
  generalize (obV 0 0 fun _ => 0) = ZO at *
  have S8 := hide (s8_ln (A.hasZ l))
  have X8 := hide (lnV_one (A.hasZ l))
  have S8' : Hid ((#[.int .u64 0, .int .u64 0, .int .u64 0, .int .u64 0, .int .u64 0, .int .u64 0, .int .u64 0, .int .u64 0] : Array Value).size = (lnV (A.hasZ l)).size) := by show _ = _; rw [lnV_size]; rfl
  obtain ⟨LV, hLV⟩ : ∃ LV, LV = lnV (A.hasZ l) := ⟨_, rfl⟩
  have HLV := hide hLV.symm
  rw [← hLV] at S8 X8 S8'
  clear h hf hz hx eL eE hE hLV hA
  go_enter Tryz.func58, Tryz.ntmps58
  go_wp2_with (with_reducible refine wpList_allocZ (by with_unfolding_all rfl) 87 (by with_unfolding_all rfl) ZO (unhide Z0) ?_)
  refine (unhide CF).mono ?_
  rintro e w1 ⟨rfl, hw1⟩
  subst hw1
  have O3 := O0
  obtain ⟨g4, hg4⟩ : ∃ g4, g4 = w.heap.size := ⟨_, rfl⟩
  rw [← hg4] at O3
  rw [← hg4]
  clear CF O0 hg4
  go_upto_region 4 with fail
  generalize w.alloc (.cells ZO 87) = w2 at *
  have SC : Hid (∀ (w' : World) (G' : Nat → Prop), YHas W z y f g St S K A w' G' → w'.cell? ⟨y, 0, none⟩ = some (.pointer (some ⟨z, 0, none⟩)) ∧ w'.cell? ⟨y, 2 + i * 3 + 2, none⟩ = some (.int .i64 l)) := fun w' G' hO => ⟨hO.rep.c0, (unhide CEN _ hO.rep).2.2⟩
  have O4 := hide ((unhide O3).drew (unhide T0))
  refine wp_region_noPanic ?_
  refine wp_region_held_drew (S := fun w' => w'.cell? ⟨y, 0, none⟩ = some (.pointer (some ⟨z, 0, none⟩)) ∧ w'.cell? ⟨y, 2 + i * 3 + 2, none⟩ = some (.int .i64 l)) (by kernel_rfl) (unhide SC _ _ (unhide O4).st) (fun hHeld => ?_)
  generalize w2.drew = wd at *
  clear O3
  refine take_at 0 16 (v := ?_) rfl rfl (by kernel_rfl) (by kernel_rfl) (by kernel_rfl) (Or.inl ⟨by rfl, ?_⟩) hHeld ?_
  rotate_left
  · intro w hSw; go_simp; with_reducible rfl
  simp only [Act.put, List.setIfInBounds_toArray, List.set_cons_zero, List.set_cons_succ]
  refine take_at 1 17 (v := ?_) rfl rfl (by kernel_rfl) (by kernel_rfl) (by kernel_rfl) (Or.inl ⟨by rfl, ?_⟩) hHeld ?_
  rotate_left
  · intro w hSw; go_simp; with_reducible rfl
  simp only [Act.put, List.setIfInBounds_toArray, List.set_cons_zero, List.set_cons_succ]
  refine take_at 2 18 (v := ?_) rfl rfl (by kernel_rfl) (by kernel_rfl) (by kernel_rfl) (Or.inl ⟨by rfl, ?_⟩) hHeld ?_
  rotate_left
  · intro w hSw; go_simp; with_reducible rfl
  simp only [Act.put, List.setIfInBounds_toArray, List.set_cons_zero, List.set_cons_succ]
  refine take_at 3 19 (v := ?_) rfl rfl (by kernel_rfl) (by kernel_rfl) (by kernel_rfl) (Or.inl ⟨by rfl, ?_⟩) hHeld ?_
  rotate_left
  · intro w hSw; obtain ⟨s1, s2⟩ := hSw; go_simp; with_reducible rfl
  simp only [Act.put, List.setIfInBounds_toArray, List.set_cons_zero, List.set_cons_succ]
  refine take_at 4 20 (v := ?_) rfl rfl (by kernel_rfl) (by kernel_rfl) (by kernel_rfl) (Or.inl ⟨by rfl, ?_⟩) hHeld ?_
  rotate_left
  · intro w hSw; go_simp; with_reducible rfl
  simp only [Act.put, List.setIfInBounds_toArray, List.set_cons_zero, List.set_cons_succ]
  refine take_at 5 21 (v := ?_) rfl rfl (by kernel_rfl) (by kernel_rfl) (by kernel_rfl) (Or.inl ⟨by rfl, ?_⟩) hHeld ?_
  rotate_left
  · intro w hSw; go_simp; with_reducible rfl
  simp only [Act.put, List.setIfInBounds_toArray, List.set_cons_zero, List.set_cons_succ]
  refine take_at 6 22 (v := ?_) rfl rfl (by kernel_rfl) (by kernel_rfl) (by kernel_rfl) (Or.inl ⟨by rfl, ?_⟩) hHeld ?_
  rotate_left
  · intro w hSw; go_simp; with_reducible rfl
  simp only [Act.put, List.setIfInBounds_toArray, List.set_cons_zero, List.set_cons_succ]
  refine take_at 7 23 (v := ?_) rfl rfl (by kernel_rfl) (by kernel_rfl) (by kernel_rfl) (Or.inl ⟨by rfl, ?_⟩) hHeld ?_
  rotate_left
  · intro w hSw; go_simp; with_reducible rfl
  simp only [Act.put, List.setIfInBounds_toArray, List.set_cons_zero, List.set_cons_succ]
  refine take_at 8 24 (v := ?_) rfl rfl (by kernel_rfl) (by kernel_rfl) (by kernel_rfl) (Or.inl ⟨by rfl, ?_⟩) hHeld ?_
  rotate_left
  · intro w hSw; go_simp; with_reducible rfl
  simp only [Act.put, List.setIfInBounds_toArray, List.set_cons_zero, List.set_cons_succ]
  refine take_at 9 25 (v := ?_) rfl rfl (by kernel_rfl) (by kernel_rfl) (by kernel_rfl) (Or.inl ⟨by rfl, ?_⟩) hHeld ?_
  rotate_left
  · intro w hSw; go_simp; with_reducible rfl
  simp only [Act.put, List.setIfInBounds_toArray, List.set_cons_zero, List.set_cons_succ]
  refine take_at 10 26 (v := ?_) rfl rfl (by kernel_rfl) (by kernel_rfl) (by kernel_rfl) (Or.inl ⟨by rfl, ?_⟩) hHeld ?_
  rotate_left
  · intro w hSw; obtain ⟨s1, s2⟩ := hSw; go_simp; with_reducible rfl
  simp only [Act.put, List.setIfInBounds_toArray, List.set_cons_zero, List.set_cons_succ]
  refine wpAnyH_ready (rs := [11, 15]) (by kernel_rfl) (by simp) ?_
  refine AllReadyH.cons rfl (fun K2 hK => ?_) (AllReadyH.cons rfl (fun K2 hK => ?_) AllReadyH.nil)
  · go_simp
    refine ((unhide O4).st.load M (unhide hok1) l).mono ?_
    rintro e w3 ⟨rfl, h1, h2⟩
    have OX := hide ((unhide O4).call (St' := YHas W z y f g St S K A) h1 h2)
    rw [hle, unhide HLV]
    go_wp2_with fail
    clear hHeld
    refine hK.out _ _ (unhide SC _ _ (unhide OX).st) (fun hNew => ?_)
    have hHeld := hNew
    clear hK K2 hNew
    clear h1 h2 O4
    refine take_at 12 15 (v := ?_) rfl rfl (by kernel_rfl) (by kernel_rfl) (by kernel_rfl) (Or.inl ⟨by rfl, ?_⟩) hHeld ?_
    rotate_left
    · intro w hSw; go_simp; with_reducible rfl
    simp only [Act.put, List.setIfInBounds_toArray, List.set_cons_zero, List.set_cons_succ]
    refine take_at 13 28 (v := ?_) rfl rfl (by kernel_rfl) (by kernel_rfl) (by kernel_rfl) (Or.inl ⟨by rfl, ?_⟩) hHeld ?_
    rotate_left
    · intro w hSw; go_simp; with_reducible rfl
    simp only [Act.put, List.setIfInBounds_toArray, List.set_cons_zero, List.set_cons_succ]
    refine take_at 14 29 (v := ?_) rfl rfl (by kernel_rfl) (by kernel_rfl) (by kernel_rfl) (Or.inl ⟨by rfl, ?_⟩) hHeld ?_
    rotate_left
    · intro w hSw; go_simp; with_reducible rfl
    simp only [Act.put, List.setIfInBounds_toArray, List.set_cons_zero, List.set_cons_succ]
    refine wpAnyH_ready (rs := [15]) (by kernel_rfl) (by simp) ?_
    refine AllReadyH.cons rfl (fun K2 hK => ?_) AllReadyH.nil
    have OY := hide ((unhide OX).alloc (unhide T0) (.cells #[.int .u64 0, .int .u64 0, .int .u64 0, .int .u64 0, .int .u64 0, .int .u64 0, .int .u64 0, .int .u64 0] 83))
    have HNE := hide (unhide OX).fresh
    go_wp2_with fail
    clear OX
    obtain ⟨g8, hg8⟩ : ∃ g8, g8 = w3.heap.size := ⟨_, rfl⟩
    rw [← hg8] at OY HNE ⊢
    have OX := OY
    generalize w3.alloc _ = w4 at *
    clear hHeld
    refine hK.out _ _ (unhide SC _ _ (unhide OX).st) (fun hNew => ?_)
    have hHeld := hNew
    clear hK K2 hNew
    clear OX hg8
    refine wpAnyH_ready (rs := [16]) (by kernel_rfl) (by simp) ?_
    refine AllReadyH.cons rfl (fun K2 hK => ?_) AllReadyH.nil
    have KG := (unhide OY).at g8 (.cells #[.int .u64 0, .int .u64 0, .int .u64 0, .int .u64 0, .int .u64 0, .int .u64 0, .int .u64 0, .int .u64 0] 83) (by simp)
    refine (if_pos (by rfl)).mpr ?_
    refine wp_store_row 83 (.tmp 7) (.tmp 28) rfl g8 LV rfl rfl _ _ KG (unhide S8) (unhide S8') (unhide X8) ?_
    have OX := hide ((unhide OY).rowHd (unhide T0) (unhide HNE) LV)
    clear hHeld
    refine hK.out _ _ (unhide SC _ _ (unhide OX).st) (fun hNew => ?_)
    have hHeld := hNew
    clear hK K2 hNew
    clear KG OY
    refine take_at 17 6 (v := ?_) rfl rfl (by kernel_rfl) (by kernel_rfl) (by kernel_rfl) (Or.inl ⟨by rfl, ?_⟩) hHeld ?_
    rotate_left
    · intro w hSw; go_simp; with_reducible rfl
    simp only [Act.put, List.setIfInBounds_toArray, List.set_cons_zero, List.set_cons_succ]
    refine wpAnyH_done (by kernel_rfl) ?_ _
    refine NoPanic.normal ?_
    clear hHeld
    generalize World.setRow _ g8 LV = w5 at *
    have K1 := hide ((unhide OX).at g4 (.cells ZO 87) (by simp))
    have K2 : Hid ((w5.setRow g4 ZO).heap[g4]? = some (.cells ZO 87 (0, 0))) := setRow_heap _ _ _ _ _ _ (unhide K1)
    go_wp2_with (first | (with_reducible refine wpList_build0 (by with_unfolding_all rfl) 87 (by with_unfolding_all rfl) ZO (unhide B0) ?_) | (with_reducible refine wpList_store_row (by with_unfolding_all rfl) 87 _ _ (by with_unfolding_all rfl) g4 ZO (by with_unfolding_all rfl) (by with_unfolding_all rfl) _ _ (unhide K1) (unhide S10) rfl (unhide X1) ?_))
    refine bodyPost_ret (v := .tuple #[.agg ZO, .int .i64 E]) (results_two Tryz.results58 _ _ g4 87 ZO (0, 0) _ _ rfl rfl (unhide K2) Tryz.underlying87 rfl (unhide S10)) rfl ?_
    rw [unhide HV]
    have OT := (unhide OX).row (unhide T0) g4 ZO 87 (0, 0) (by simp) ZO
    exact OT.done (unhide T0) _
  · have OY := hide ((unhide O4).alloc (unhide T0) (.cells #[.int .u64 0, .int .u64 0, .int .u64 0, .int .u64 0, .int .u64 0, .int .u64 0, .int .u64 0, .int .u64 0] 83))
    have HNE := hide (unhide O4).fresh
    go_wp2_with fail
    clear O4
    obtain ⟨g8, hg8⟩ : ∃ g8, g8 = wd.heap.size := ⟨_, rfl⟩
    rw [← hg8] at OY HNE ⊢
    have OX := OY
    generalize wd.alloc _ = w4 at *
    clear hHeld
    refine hK.out _ _ (unhide SC _ _ (unhide OX).st) (fun hNew => ?_)
    have hHeld := hNew
    clear hK K2 hNew
    clear OX hg8
    refine wpAnyH_ready (rs := [11]) (by kernel_rfl) (by simp) ?_
    refine AllReadyH.cons rfl (fun K2 hK => ?_) AllReadyH.nil
    go_simp
    refine ((unhide OY).st.load M (unhide hok1) l).mono ?_
    rintro e w3 ⟨rfl, h1, h2⟩
    have OX := hide ((unhide OY).call (St' := YHas W z y f g St S K A) h1 h2)
    rw [hle, unhide HLV]
    go_wp2_with fail
    clear hHeld
    refine hK.out _ _ (unhide SC _ _ (unhide OX).st) (fun hNew => ?_)
    have hHeld := hNew
    clear hK K2 hNew
    clear h1 h2 OY
    have OY := OX
    clear OX
    refine take_at 12 15 (v := ?_) rfl rfl (by kernel_rfl) (by kernel_rfl) (by kernel_rfl) (Or.inl ⟨by rfl, ?_⟩) hHeld ?_
    rotate_left
    · intro w hSw; go_simp; with_reducible rfl
    simp only [Act.put, List.setIfInBounds_toArray, List.set_cons_zero, List.set_cons_succ]
    refine take_at 13 28 (v := ?_) rfl rfl (by kernel_rfl) (by kernel_rfl) (by kernel_rfl) (Or.inl ⟨by rfl, ?_⟩) hHeld ?_
    rotate_left
    · intro w hSw; go_simp; with_reducible rfl
    simp only [Act.put, List.setIfInBounds_toArray, List.set_cons_zero, List.set_cons_succ]
    refine take_at 14 29 (v := ?_) rfl rfl (by kernel_rfl) (by kernel_rfl) (by kernel_rfl) (Or.inl ⟨by rfl, ?_⟩) hHeld ?_
    rotate_left
    · intro w hSw; go_simp; with_reducible rfl
    simp only [Act.put, List.setIfInBounds_toArray, List.set_cons_zero, List.set_cons_succ]
    refine wpAnyH_ready (rs := [16]) (by kernel_rfl) (by simp) ?_
    refine AllReadyH.cons rfl (fun K2 hK => ?_) AllReadyH.nil
    have KG := (unhide OY).at g8 (.cells #[.int .u64 0, .int .u64 0, .int .u64 0, .int .u64 0, .int .u64 0, .int .u64 0, .int .u64 0, .int .u64 0] 83) (by simp)
    refine (if_pos (by rfl)).mpr ?_
    refine wp_store_row 83 (.tmp 7) (.tmp 28) rfl g8 LV rfl rfl _ _ KG (unhide S8) (unhide S8') (unhide X8) ?_
    have OX := hide ((unhide OY).rowHd (unhide T0) (unhide HNE) LV)
    clear hHeld
    refine hK.out _ _ (unhide SC _ _ (unhide OX).st) (fun hNew => ?_)
    have hHeld := hNew
    clear hK K2 hNew
    clear KG OY
    refine take_at 17 6 (v := ?_) rfl rfl (by kernel_rfl) (by kernel_rfl) (by kernel_rfl) (Or.inl ⟨by rfl, ?_⟩) hHeld ?_
    rotate_left
    · intro w hSw; go_simp; with_reducible rfl
    simp only [Act.put, List.setIfInBounds_toArray, List.set_cons_zero, List.set_cons_succ]
    refine wpAnyH_done (by kernel_rfl) ?_ _
    refine NoPanic.normal ?_
    clear hHeld
    generalize World.setRow _ g8 LV = w5 at *
    have K1 := hide ((unhide OX).at g4 (.cells ZO 87) (by simp))
    have K2 : Hid ((w5.setRow g4 ZO).heap[g4]? = some (.cells ZO 87 (0, 0))) := setRow_heap _ _ _ _ _ _ (unhide K1)
    go_wp2_with (first | (with_reducible refine wpList_build0 (by with_unfolding_all rfl) 87 (by with_unfolding_all rfl) ZO (unhide B0) ?_) | (with_reducible refine wpList_store_row (by with_unfolding_all rfl) 87 _ _ (by with_unfolding_all rfl) g4 ZO (by with_unfolding_all rfl) (by with_unfolding_all rfl) _ _ (unhide K1) (unhide S10) rfl (unhide X1) ?_))
    refine bodyPost_ret (v := .tuple #[.agg ZO, .int .i64 E]) (results_two Tryz.results58 _ _ g4 87 ZO (0, 0) _ _ rfl rfl (unhide K2) Tryz.underlying87 rfl (unhide S10)) rfl ?_
    rw [unhide HV]
    have OT := (unhide OX).row (unhide T0) g4 ZO 87 (0, 0) (by simp) ZO
    exact OT.done (unhide T0) _
set_option maxHeartbeats 4000000 in
theorem yget_lit {W w : World} {z y f g : Nat} {St : Mm → World → (Nat → Prop) → Prop} {S : Sto} {K : Nat → En} {A : Mm} {G : Nat → Prop} (M : MemR W z St) (h : YHas W z y f g St S K A w G) (hA : A.ok 1000) (x : Int) (hf : S.findE x = 0) (hle : A.loadE (S.line x) = 0) :
    Calls Tryz.prog 58 #[.pointer (some ⟨y, 0, none⟩), .int .i64 x] w (Done (YHas W z y f g St S K A) w G (getT S A x)) := by
  have hok1 := hide hA
  have T0 := hide (YHas.stay M y f g S K A)
  have O0 := hide ((Held.start (unhide T0) h).alloc (unhide T0) (.cells (obV 0 0 fun _ => 0) 87))
  have hz := findE_ok hf
  obtain ⟨i, rfl⟩ : ∃ i : Nat, x = (i : Int) := ⟨x.toNat, by omega⟩
  have hi : i < 49 := by omega
  have hi1 : (i : Int) < 49 := by omega
  obtain ⟨k, v0, l, hx⟩ : ∃ k v0 l, S.w i = ⟨k, v0, l⟩ := ⟨_, _, _, rfl⟩
  have eL : S.line (i : Int) = l := by unfold Sto.line; rw [Int.toNat_natCast, hx]
  have CF := hide (yis_any (unhide O0).st.rep (i : Int))
  rw [hf] at CF
  have CEN : Hid (∀ w', YRep z f S K w' y → w'.cell? ⟨y, 2 + i * 3, none⟩ = some (.int .i64 k) ∧ w'.cell? ⟨y, 2 + i * 3 + 1, none⟩ = some (.int .i64 v0) ∧ w'.cell? ⟨y, 2 + i * 3 + 2, none⟩ = some (.int .i64 l)) := fun w' h' => by
    have a1 := h'.ck i hi
    have a2 := h'.cv i hi
    have a3 := h'.cl i hi
    rw [hx] at a1 a2 a3
    exact ⟨a1, a2, a3⟩
  rw [eL] at hle
  have eE : S.getE A (i : Int) = A.loadE l := by unfold Sto.getE; rw [if_pos hf, eL]
  rw [hle] at eE
  have HV : Hid (getT S A (i : Int) = .tuple #[.agg (obV k v0 (A.hasZ l)), .int .i64 0]) := by
    show getT S A (i : Int) = _
    unfold getT Sto.getV; rw [eE, if_pos rfl, eL, Int.toNat_natCast, hx]
  have SV := hide (s10_ob k v0 (A.hasZ l))
  have XV := hide (obV_one k v0 (A.hasZ l))
  have SZ : Hid ((obV 0 0 fun _ => 0).size = (obV k v0 (A.hasZ l)).size) := by show _ = _; rw [obV_size, obV_size]
  have BO := hide (build_ob k v0 (A.hasZ l))
  generalize obV k v0 (A.hasZ l) = VO at *
  have S10 := hide (s10_ob 0 0 fun _ => 0)
  have Z0 := hide zero_ob
  have B0 := hide build_ob0
  have X1 := hide (obV_one 0 0 fun _ => 0)
  generalize (obV 0 0 fun _ => 0) = ZO at *
  have S8 := hide (s8_ln (A.hasZ l))
  have X8 := hide (lnV_one (A.hasZ l))
  have S8' : Hid ((#[.int .u64 0, .int .u64 0, .int .u64 0, .int .u64 0, .int .u64 0, .int .u64 0, .int .u64 0, .int .u64 0] : Array Value).size = (lnV (A.hasZ l)).size) := by show _ = _; rw [lnV_size]; rfl
  obtain ⟨LV, hLV⟩ : ∃ LV, LV = lnV (A.hasZ l) := ⟨_, rfl⟩
  have HLV := hide hLV.symm
  rw [← hLV] at S8 X8 S8'
  rw [← hLV] at BO
  clear h hf hz hx eL eE hLV hA
  go_enter Tryz.func58, Tryz.ntmps58
  go_wp2_with (with_reducible refine wpList_allocZ (by with_unfolding_all rfl) 87 (by with_unfolding_all rfl) ZO (unhide Z0) ?_)
  refine (unhide CF).mono ?_
  rintro e w1 ⟨rfl, hw1⟩
  subst hw1
  have O3 := O0
  obtain ⟨g4, hg4⟩ : ∃ g4, g4 = w.heap.size := ⟨_, rfl⟩
  rw [← hg4] at O3
  rw [← hg4]
  clear CF O0 hg4
  go_upto_region 4 with fail
  generalize w.alloc (.cells ZO 87) = w2 at *
  have SC : Hid (∀ (w' : World) (G' : Nat → Prop), YHas W z y f g St S K A w' G' → w'.cell? ⟨y, 0, none⟩ = some (.pointer (some ⟨z, 0, none⟩)) ∧ w'.cell? ⟨y, 2 + i * 3 + 2, none⟩ = some (.int .i64 l)) := fun w' G' hO => ⟨hO.rep.c0, (unhide CEN _ hO.rep).2.2⟩
  have O4 := hide ((unhide O3).drew (unhide T0))
  refine wp_region_noPanic ?_
  refine wp_region_held_drew (S := fun w' => w'.cell? ⟨y, 0, none⟩ = some (.pointer (some ⟨z, 0, none⟩)) ∧ w'.cell? ⟨y, 2 + i * 3 + 2, none⟩ = some (.int .i64 l)) (by kernel_rfl) (unhide SC _ _ (unhide O4).st) (fun hHeld => ?_)
  generalize w2.drew = wd at *
  clear O3
  refine take_at 0 16 (v := ?_) rfl rfl (by kernel_rfl) (by kernel_rfl) (by kernel_rfl) (Or.inl ⟨by rfl, ?_⟩) hHeld ?_
  rotate_left
  · intro w hSw; go_simp; with_reducible rfl
  simp only [Act.put, List.setIfInBounds_toArray, List.set_cons_zero, List.set_cons_succ]
  refine take_at 1 17 (v := ?_) rfl rfl (by kernel_rfl) (by kernel_rfl) (by kernel_rfl) (Or.inl ⟨by rfl, ?_⟩) hHeld ?_
  rotate_left
  · intro w hSw; go_simp; with_reducible rfl
  simp only [Act.put, List.setIfInBounds_toArray, List.set_cons_zero, List.set_cons_succ]
  refine take_at 2 18 (v := ?_) rfl rfl (by kernel_rfl) (by kernel_rfl) (by kernel_rfl) (Or.inl ⟨by rfl, ?_⟩) hHeld ?_
  rotate_left
  · intro w hSw; go_simp; with_reducible rfl
  simp only [Act.put, List.setIfInBounds_toArray, List.set_cons_zero, List.set_cons_succ]
  refine take_at 3 19 (v := ?_) rfl rfl (by kernel_rfl) (by kernel_rfl) (by kernel_rfl) (Or.inl ⟨by rfl, ?_⟩) hHeld ?_
  rotate_left
  · intro w hSw; obtain ⟨s1, s2⟩ := hSw; go_simp; with_reducible rfl
  simp only [Act.put, List.setIfInBounds_toArray, List.set_cons_zero, List.set_cons_succ]
  refine take_at 4 20 (v := ?_) rfl rfl (by kernel_rfl) (by kernel_rfl) (by kernel_rfl) (Or.inl ⟨by rfl, ?_⟩) hHeld ?_
  rotate_left
  · intro w hSw; go_simp; with_reducible rfl
  simp only [Act.put, List.setIfInBounds_toArray, List.set_cons_zero, List.set_cons_succ]
  refine take_at 5 21 (v := ?_) rfl rfl (by kernel_rfl) (by kernel_rfl) (by kernel_rfl) (Or.inl ⟨by rfl, ?_⟩) hHeld ?_
  rotate_left
  · intro w hSw; go_simp; with_reducible rfl
  simp only [Act.put, List.setIfInBounds_toArray, List.set_cons_zero, List.set_cons_succ]
  refine take_at 6 22 (v := ?_) rfl rfl (by kernel_rfl) (by kernel_rfl) (by kernel_rfl) (Or.inl ⟨by rfl, ?_⟩) hHeld ?_
  rotate_left
  · intro w hSw; go_simp; with_reducible rfl
  simp only [Act.put, List.setIfInBounds_toArray, List.set_cons_zero, List.set_cons_succ]
  refine take_at 7 23 (v := ?_) rfl rfl (by kernel_rfl) (by kernel_rfl) (by kernel_rfl) (Or.inl ⟨by rfl, ?_⟩) hHeld ?_
  rotate_left
  · intro w hSw; go_simp; with_reducible rfl
  simp only [Act.put, List.setIfInBounds_toArray, List.set_cons_zero, List.set_cons_succ]
  refine take_at 8 24 (v := ?_) rfl rfl (by kernel_rfl) (by kernel_rfl) (by kernel_rfl) (Or.inl ⟨by rfl, ?_⟩) hHeld ?_
  rotate_left
  · intro w hSw; go_simp; with_reducible rfl
  simp only [Act.put, List.setIfInBounds_toArray, List.set_cons_zero, List.set_cons_succ]
  refine take_at 9 25 (v := ?_) rfl rfl (by kernel_rfl) (by kernel_rfl) (by kernel_rfl) (Or.inl ⟨by rfl, ?_⟩) hHeld ?_
  rotate_left
  · intro w hSw; go_simp; with_reducible rfl
  simp only [Act.put, List.setIfInBounds_toArray, List.set_cons_zero, List.set_cons_succ]
  refine take_at 10 26 (v := ?_) rfl rfl (by kernel_rfl) (by kernel_rfl) (by kernel_rfl) (Or.inl ⟨by rfl, ?_⟩) hHeld ?_
  rotate_left
  · intro w hSw; obtain ⟨s1, s2⟩ := hSw; go_simp; with_reducible rfl
  simp only [Act.put, List.setIfInBounds_toArray, List.set_cons_zero, List.set_cons_succ]
  refine wpAnyH_ready (rs := [11, 15]) (by kernel_rfl) (by simp) ?_
  refine AllReadyH.cons rfl (fun K2 hK => ?_) (AllReadyH.cons rfl (fun K2 hK => ?_) AllReadyH.nil)
  · go_simp
    refine ((unhide O4).st.load M (unhide hok1) l).mono ?_
    rintro e w3 ⟨rfl, h1, h2⟩
    have OX := hide ((unhide O4).call (St' := YHas W z y f g St S K A) h1 h2)
    rw [hle, unhide HLV]
    go_wp2_with fail
    clear hHeld
    refine hK.out _ _ (unhide SC _ _ (unhide OX).st) (fun hNew => ?_)
    have hHeld := hNew
    clear hK K2 hNew
    clear h1 h2 O4
    refine take_at 12 15 (v := ?_) rfl rfl (by kernel_rfl) (by kernel_rfl) (by kernel_rfl) (Or.inl ⟨by rfl, ?_⟩) hHeld ?_
    rotate_left
    · intro w hSw; go_simp; with_reducible rfl
    simp only [Act.put, List.setIfInBounds_toArray, List.set_cons_zero, List.set_cons_succ]
    refine take_at 13 28 (v := ?_) rfl rfl (by kernel_rfl) (by kernel_rfl) (by kernel_rfl) (Or.inl ⟨by rfl, ?_⟩) hHeld ?_
    rotate_left
    · intro w hSw; go_simp; with_reducible rfl
    simp only [Act.put, List.setIfInBounds_toArray, List.set_cons_zero, List.set_cons_succ]
    refine take_at 14 29 (v := ?_) rfl rfl (by kernel_rfl) (by kernel_rfl) (by kernel_rfl) (Or.inl ⟨by rfl, ?_⟩) hHeld ?_
    rotate_left
    · intro w hSw; go_simp; with_reducible rfl
    simp only [Act.put, List.setIfInBounds_toArray, List.set_cons_zero, List.set_cons_succ]
    refine wpAnyH_ready (rs := [15]) (by kernel_rfl) (by simp) ?_
    refine AllReadyH.cons rfl (fun K2 hK => ?_) AllReadyH.nil
    have OY := hide ((unhide OX).alloc (unhide T0) (.cells #[.int .u64 0, .int .u64 0, .int .u64 0, .int .u64 0, .int .u64 0, .int .u64 0, .int .u64 0, .int .u64 0] 83))
    have HNE := hide (unhide OX).fresh
    go_wp2_with fail
    clear OX
    obtain ⟨g8, hg8⟩ : ∃ g8, g8 = w3.heap.size := ⟨_, rfl⟩
    rw [← hg8] at OY HNE ⊢
    have OX := OY
    generalize w3.alloc _ = w4 at *
    clear hHeld
    refine hK.out _ _ (unhide SC _ _ (unhide OX).st) (fun hNew => ?_)
    have hHeld := hNew
    clear hK K2 hNew
    clear OX hg8
    refine wpAnyH_ready (rs := [16]) (by kernel_rfl) (by simp) ?_
    refine AllReadyH.cons rfl (fun K2 hK => ?_) AllReadyH.nil
    have KG := (unhide OY).at g8 (.cells #[.int .u64 0, .int .u64 0, .int .u64 0, .int .u64 0, .int .u64 0, .int .u64 0, .int .u64 0, .int .u64 0] 83) (by simp)
    refine (if_pos (by rfl)).mpr ?_
    refine wp_store_row 83 (.tmp 7) (.tmp 28) rfl g8 LV rfl rfl _ _ KG (unhide S8) (unhide S8') (unhide X8) ?_
    have OX := hide ((unhide OY).rowHd (unhide T0) (unhide HNE) LV)
    clear hHeld
    refine hK.out _ _ (unhide SC _ _ (unhide OX).st) (fun hNew => ?_)
    have hHeld := hNew
    clear hK K2 hNew
    clear KG OY
    refine take_at 17 6 (v := ?_) rfl rfl (by kernel_rfl) (by kernel_rfl) (by kernel_rfl) (Or.inl ⟨by rfl, ?_⟩) hHeld ?_
    rotate_left
    · intro w hSw; go_simp; with_reducible rfl
    simp only [Act.put, List.setIfInBounds_toArray, List.set_cons_zero, List.set_cons_succ]
    refine wpAnyH_done (by kernel_rfl) ?_ _
    refine NoPanic.normal ?_
    clear hHeld
    generalize World.setRow _ g8 LV = w5 at *
    go_upto_region 7 with fail
    have OD := hide ((unhide OX).drew (unhide T0))
    clear OX SC
    have KS : Hid (∀ w' : World, Held W (YHas W z y f g St S K A) w w' G [(g8, Obj.cells LV 83), (g4, Obj.cells ZO 87)] → w'.cell? ⟨y, 2 + i * 3, none⟩ = some (.int .i64 k) ∧ w'.cell? ⟨y, 2 + i * 3 + 1, none⟩ = some (.int .i64 v0) ∧ w'.rangeAt g8 0 LV.toList) := fun w' hO => ⟨(unhide CEN _ hO.st.rep).1, (unhide CEN _ hO.st.rep).2.1, fun j v hv => by rw [cell_of_block (hO.at g8 (.cells LV 83) (by simp)), Nat.zero_add, ← Array.getElem?_toList]; exact hv⟩
    have s8l : (Tryz.prog.info? 83).map (·.size) = some LV.toList.length := by rw [Array.length_toList]; exact unhide S8
    refine wp_region_noPanic ?_
    refine wp_region_held_drew (S := fun w' => w'.cell? ⟨y, 2 + i * 3, none⟩ = some (.int .i64 k) ∧ w'.cell? ⟨y, 2 + i * 3 + 1, none⟩ = some (.int .i64 v0) ∧ w'.rangeAt g8 0 LV.toList) (by kernel_rfl) (unhide KS _ (unhide OD)) (fun hHeld => ?_)
    generalize w5.drew = w6 at *
    refine take_at 0 34 (v := ?_) rfl rfl (by kernel_rfl) (by kernel_rfl) (by kernel_rfl) (Or.inl ⟨by rfl, ?_⟩) hHeld ?_
    rotate_left
    · intro w hSw; go_simp; with_reducible rfl
    simp only [Act.put, List.setIfInBounds_toArray, List.set_cons_zero, List.set_cons_succ]
    refine take_at 1 35 (v := ?_) rfl rfl (by kernel_rfl) (by kernel_rfl) (by kernel_rfl) (Or.inl ⟨by rfl, ?_⟩) hHeld ?_
    rotate_left
    · intro w hSw; go_simp; with_reducible rfl
    simp only [Act.put, List.setIfInBounds_toArray, List.set_cons_zero, List.set_cons_succ]
    refine take_at 2 36 (v := ?_) rfl rfl (by kernel_rfl) (by kernel_rfl) (by kernel_rfl) (Or.inl ⟨by rfl, ?_⟩) hHeld ?_
    rotate_left
    · intro w hSw; go_simp; with_reducible rfl
    simp only [Act.put, List.setIfInBounds_toArray, List.set_cons_zero, List.set_cons_succ]
    refine take_at 3 37 (v := ?_) rfl rfl (by kernel_rfl) (by kernel_rfl) (by kernel_rfl) (Or.inl ⟨by rfl, ?_⟩) hHeld ?_
    rotate_left
    · intro w hSw; go_simp; with_reducible rfl
    simp only [Act.put, List.setIfInBounds_toArray, List.set_cons_zero, List.set_cons_succ]
    refine take_at 4 38 (v := ?_) rfl rfl (by kernel_rfl) (by kernel_rfl) (by kernel_rfl) (Or.inl ⟨by rfl, ?_⟩) hHeld ?_
    rotate_left
    · intro w hSw; go_simp; with_reducible rfl
    simp only [Act.put, List.setIfInBounds_toArray, List.set_cons_zero, List.set_cons_succ]
    refine take_at 5 39 (v := ?_) rfl rfl (by kernel_rfl) (by kernel_rfl) (by kernel_rfl) (Or.inl ⟨by rfl, ?_⟩) hHeld ?_
    rotate_left
    · intro w hSw; go_simp; with_reducible rfl
    simp only [Act.put, List.setIfInBounds_toArray, List.set_cons_zero, List.set_cons_succ]
    refine take_at 6 40 (v := ?_) rfl rfl (by kernel_rfl) (by kernel_rfl) (by kernel_rfl) (Or.inl ⟨by rfl, ?_⟩) hHeld ?_
    rotate_left
    · intro w hSw; obtain ⟨s1, s2, s3⟩ := hSw; go_simp; with_reducible rfl
    simp only [Act.put, List.setIfInBounds_toArray, List.set_cons_zero, List.set_cons_succ]
    refine take_at 7 41 (v := ?_) rfl rfl (by kernel_rfl) (by kernel_rfl) (by kernel_rfl) (Or.inl ⟨by rfl, ?_⟩) hHeld ?_
    rotate_left
    · intro w hSw; go_simp; with_reducible rfl
    simp only [Act.put, List.setIfInBounds_toArray, List.set_cons_zero, List.set_cons_succ]
    refine take_at 8 42 (v := ?_) rfl rfl (by kernel_rfl) (by kernel_rfl) (by kernel_rfl) (Or.inl ⟨by rfl, ?_⟩) hHeld ?_
    rotate_left
    · intro w hSw; go_simp; with_reducible rfl
    simp only [Act.put, List.setIfInBounds_toArray, List.set_cons_zero, List.set_cons_succ]
    refine take_at 9 43 (v := ?_) rfl rfl (by kernel_rfl) (by kernel_rfl) (by kernel_rfl) (Or.inl ⟨by rfl, ?_⟩) hHeld ?_
    rotate_left
    · intro w hSw; go_simp; with_reducible rfl
    simp only [Act.put, List.setIfInBounds_toArray, List.set_cons_zero, List.set_cons_succ]
    refine take_at 10 44 (v := ?_) rfl rfl (by kernel_rfl) (by kernel_rfl) (by kernel_rfl) (Or.inl ⟨by rfl, ?_⟩) hHeld ?_
    rotate_left
    · intro w hSw; go_simp; with_reducible rfl
    simp only [Act.put, List.setIfInBounds_toArray, List.set_cons_zero, List.set_cons_succ]
    refine take_at 11 45 (v := ?_) rfl rfl (by kernel_rfl) (by kernel_rfl) (by kernel_rfl) (Or.inl ⟨by rfl, ?_⟩) hHeld ?_
    rotate_left
    · intro w hSw; go_simp; with_reducible rfl
    simp only [Act.put, List.setIfInBounds_toArray, List.set_cons_zero, List.set_cons_succ]
    refine take_at 12 46 (v := ?_) rfl rfl (by kernel_rfl) (by kernel_rfl) (by kernel_rfl) (Or.inl ⟨by rfl, ?_⟩) hHeld ?_
    rotate_left
    · intro w hSw; go_simp; with_reducible rfl
    simp only [Act.put, List.setIfInBounds_toArray, List.set_cons_zero, List.set_cons_succ]
    refine take_at 13 47 (v := ?_) rfl rfl (by kernel_rfl) (by kernel_rfl) (by kernel_rfl) (Or.inl ⟨by rfl, ?_⟩) hHeld ?_
    rotate_left
    · intro w hSw; obtain ⟨s1, s2, s3⟩ := hSw; go_simp; with_reducible rfl
    simp only [Act.put, List.setIfInBounds_toArray, List.set_cons_zero, List.set_cons_succ]
    refine take_at 14 48 rfl rfl (by kernel_rfl) (by kernel_rfl) (by kernel_rfl) (yieldsIf_load_mid (by rfl) 83 _ rfl g8 0 rfl LV.toList _ (fun w' h => h.2.2) Tryz.underlying83 rfl s8l) hHeld ?_
    simp only [Act.put, List.setIfInBounds_toArray, List.set_cons_zero, List.set_cons_succ]
    refine take_at 15 49 rfl rfl (by kernel_rfl) (by kernel_rfl) (by kernel_rfl) (yieldsIf_build3 (by rfl) 87 (.tmp 40) (.tmp 47) (.tmp 48) rfl (.int .i64 k) (.int .i64 v0) (.agg LV) rfl rfl rfl _ (unhide BO)) hHeld ?_
    simp only [Act.put, List.setIfInBounds_toArray, List.set_cons_zero, List.set_cons_succ]
    have K1 := (unhide OD).at g4 (.cells ZO 87) (by simp)
    have K2' : Hid ((w6.setRow g4 VO).heap[g4]? = some (.cells VO 87 (0, 0))) := setRow_heap _ _ _ _ _ _ K1
    refine wpAnyH_ready (rs := [16]) (by kernel_rfl) (by simp) ?_
    refine AllReadyH.cons rfl (fun K2 hK => ?_) AllReadyH.nil
    refine (if_pos (by rfl)).mpr ?_
    refine wp_store_row 87 (.tmp 4) (.tmp 49) rfl g4 VO rfl rfl _ _ K1 (unhide SV) (unhide SZ) (unhide XV) ?_
    have OT := hide ((unhide OD).row (unhide T0) g4 ZO 87 (0, 0) (by simp) VO)
    have h84 : g8 ≠ g4 := fun e => by
      have a1 := (unhide OD).at g8 (.cells LV 83) (by simp)
      rw [e, K1] at a1
      simp at a1
    have k8 : (w6.setRow g4 VO).heap[g8]? = some (.cells LV 83 (0, 0)) := (setRow_other _ _ _ _ h84).trans ((unhide OD).at g8 (.cells LV 83) (by simp))
    clear hHeld
    refine hK.out _ _ ⟨(unhide CEN _ (unhide OT).st.rep).1, (unhide CEN _ (unhide OT).st.rep).2.1, fun j v hv => by rw [cell_of_block k8, Nat.zero_add, ← Array.getElem?_toList]; exact hv⟩ (fun hNew => ?_)
    have hHeld := hNew
    clear hK K2 hNew K1 OD KS
    refine take_at 17 5 (v := ?_) rfl rfl (by kernel_rfl) (by kernel_rfl) (by kernel_rfl) (Or.inl ⟨by rfl, ?_⟩) hHeld ?_
    rotate_left
    · intro w hSw; go_simp; with_reducible rfl
    simp only [Act.put, List.setIfInBounds_toArray, List.set_cons_zero, List.set_cons_succ]
    refine wpAnyH_done (by kernel_rfl) ?_ _
    refine NoPanic.normal ?_
    clear hHeld
    go_wp2_with fail
    refine bodyPost_ret (v := .tuple #[.agg VO, .int .i64 0]) (results_two Tryz.results58 _ _ g4 87 VO (0, 0) _ _ rfl rfl (unhide K2') Tryz.underlying87 rfl (unhide SV)) rfl ?_
    rw [unhide HV]
    exact (unhide OT).done (unhide T0) _
  · have OY := hide ((unhide O4).alloc (unhide T0) (.cells #[.int .u64 0, .int .u64 0, .int .u64 0, .int .u64 0, .int .u64 0, .int .u64 0, .int .u64 0, .int .u64 0] 83))
    have HNE := hide (unhide O4).fresh
    go_wp2_with fail
    clear O4
    obtain ⟨g8, hg8⟩ : ∃ g8, g8 = wd.heap.size := ⟨_, rfl⟩
    rw [← hg8] at OY HNE ⊢
    have OX := OY
    generalize wd.alloc _ = w4 at *
    clear hHeld
    refine hK.out _ _ (unhide SC _ _ (unhide OX).st) (fun hNew => ?_)
    have hHeld := hNew
    clear hK K2 hNew
    clear OX hg8
    refine wpAnyH_ready (rs := [11]) (by kernel_rfl) (by simp) ?_
    refine AllReadyH.cons rfl (fun K2 hK => ?_) AllReadyH.nil
    go_simp
    refine ((unhide OY).st.load M (unhide hok1) l).mono ?_
    rintro e w3 ⟨rfl, h1, h2⟩
    have OX := hide ((unhide OY).call (St' := YHas W z y f g St S K A) h1 h2)
    rw [hle, unhide HLV]
    go_wp2_with fail
    clear hHeld
    refine hK.out _ _ (unhide SC _ _ (unhide OX).st) (fun hNew => ?_)
    have hHeld := hNew
    clear hK K2 hNew
    clear h1 h2 OY
    have OY := OX
    clear OX
    refine take_at 12 15 (v := ?_) rfl rfl (by kernel_rfl) (by kernel_rfl) (by kernel_rfl) (Or.inl ⟨by rfl, ?_⟩) hHeld ?_
    rotate_left
    · intro w hSw; go_simp; with_reducible rfl
    simp only [Act.put, List.setIfInBounds_toArray, List.set_cons_zero, List.set_cons_succ]
    refine take_at 13 28 (v := ?_) rfl rfl (by kernel_rfl) (by kernel_rfl) (by kernel_rfl) (Or.inl ⟨by rfl, ?_⟩) hHeld ?_
    rotate_left
    · intro w hSw; go_simp; with_reducible rfl
    simp only [Act.put, List.setIfInBounds_toArray, List.set_cons_zero, List.set_cons_succ]
    refine take_at 14 29 (v := ?_) rfl rfl (by kernel_rfl) (by kernel_rfl) (by kernel_rfl) (Or.inl ⟨by rfl, ?_⟩) hHeld ?_
    rotate_left
    · intro w hSw; go_simp; with_reducible rfl
    simp only [Act.put, List.setIfInBounds_toArray, List.set_cons_zero, List.set_cons_succ]
    refine wpAnyH_ready (rs := [16]) (by kernel_rfl) (by simp) ?_
    refine AllReadyH.cons rfl (fun K2 hK => ?_) AllReadyH.nil
    have KG := (unhide OY).at g8 (.cells #[.int .u64 0, .int .u64 0, .int .u64 0, .int .u64 0, .int .u64 0, .int .u64 0, .int .u64 0, .int .u64 0] 83) (by simp)
    refine (if_pos (by rfl)).mpr ?_
    refine wp_store_row 83 (.tmp 7) (.tmp 28) rfl g8 LV rfl rfl _ _ KG (unhide S8) (unhide S8') (unhide X8) ?_
    have OX := hide ((unhide OY).rowHd (unhide T0) (unhide HNE) LV)
    clear hHeld
    refine hK.out _ _ (unhide SC _ _ (unhide OX).st) (fun hNew => ?_)
    have hHeld := hNew
    clear hK K2 hNew
    clear KG OY
    refine take_at 17 6 (v := ?_) rfl rfl (by kernel_rfl) (by kernel_rfl) (by kernel_rfl) (Or.inl ⟨by rfl, ?_⟩) hHeld ?_
    rotate_left
    · intro w hSw; go_simp; with_reducible rfl
    simp only [Act.put, List.setIfInBounds_toArray, List.set_cons_zero, List.set_cons_succ]
    refine wpAnyH_done (by kernel_rfl) ?_ _
    refine NoPanic.normal ?_
    clear hHeld
    generalize World.setRow _ g8 LV = w5 at *
    go_upto_region 7 with fail
    have OD := hide ((unhide OX).drew (unhide T0))
    clear OX SC
    have KS : Hid (∀ w' : World, Held W (YHas W z y f g St S K A) w w' G [(g8, Obj.cells LV 83), (g4, Obj.cells ZO 87)] → w'.cell? ⟨y, 2 + i * 3, none⟩ = some (.int .i64 k) ∧ w'.cell? ⟨y, 2 + i * 3 + 1, none⟩ = some (.int .i64 v0) ∧ w'.rangeAt g8 0 LV.toList) := fun w' hO => ⟨(unhide CEN _ hO.st.rep).1, (unhide CEN _ hO.st.rep).2.1, fun j v hv => by rw [cell_of_block (hO.at g8 (.cells LV 83) (by simp)), Nat.zero_add, ← Array.getElem?_toList]; exact hv⟩
    have s8l : (Tryz.prog.info? 83).map (·.size) = some LV.toList.length := by rw [Array.length_toList]; exact unhide S8
    refine wp_region_noPanic ?_
    refine wp_region_held_drew (S := fun w' => w'.cell? ⟨y, 2 + i * 3, none⟩ = some (.int .i64 k) ∧ w'.cell? ⟨y, 2 + i * 3 + 1, none⟩ = some (.int .i64 v0) ∧ w'.rangeAt g8 0 LV.toList) (by kernel_rfl) (unhide KS _ (unhide OD)) (fun hHeld => ?_)
    generalize w5.drew = w6 at *
    refine take_at 0 34 (v := ?_) rfl rfl (by kernel_rfl) (by kernel_rfl) (by kernel_rfl) (Or.inl ⟨by rfl, ?_⟩) hHeld ?_
    rotate_left
    · intro w hSw; go_simp; with_reducible rfl
    simp only [Act.put, List.setIfInBounds_toArray, List.set_cons_zero, List.set_cons_succ]
    refine take_at 1 35 (v := ?_) rfl rfl (by kernel_rfl) (by kernel_rfl) (by kernel_rfl) (Or.inl ⟨by rfl, ?_⟩) hHeld ?_
    rotate_left
    · intro w hSw; go_simp; with_reducible rfl
    simp only [Act.put, List.setIfInBounds_toArray, List.set_cons_zero, List.set_cons_succ]
    refine take_at 2 36 (v := ?_) rfl rfl (by kernel_rfl) (by kernel_rfl) (by kernel_rfl) (Or.inl ⟨by rfl, ?_⟩) hHeld ?_
    rotate_left
    · intro w hSw; go_simp; with_reducible rfl
    simp only [Act.put, List.setIfInBounds_toArray, List.set_cons_zero, List.set_cons_succ]
    refine take_at 3 37 (v := ?_) rfl rfl (by kernel_rfl) (by kernel_rfl) (by kernel_rfl) (Or.inl ⟨by rfl, ?_⟩) hHeld ?_
    rotate_left
    · intro w hSw; go_simp; with_reducible rfl
    simp only [Act.put, List.setIfInBounds_toArray, List.set_cons_zero, List.set_cons_succ]
    refine take_at 4 38 (v := ?_) rfl rfl (by kernel_rfl) (by kernel_rfl) (by kernel_rfl) (Or.inl ⟨by rfl, ?_⟩) hHeld ?_
    rotate_left
    · intro w hSw; go_simp; with_reducible rfl
    simp only [Act.put, List.setIfInBounds_toArray, List.set_cons_zero, List.set_cons_succ]
    refine take_at 5 39 (v := ?_) rfl rfl (by kernel_rfl) (by kernel_rfl) (by kernel_rfl) (Or.inl ⟨by rfl, ?_⟩) hHeld ?_
    rotate_left
    · intro w hSw; go_simp; with_reducible rfl
    simp only [Act.put, List.setIfInBounds_toArray, List.set_cons_zero, List.set_cons_succ]
    refine take_at 6 40 (v := ?_) rfl rfl (by kernel_rfl) (by kernel_rfl) (by kernel_rfl) (Or.inl ⟨by rfl, ?_⟩) hHeld ?_
    rotate_left
    · intro w hSw; obtain ⟨s1, s2, s3⟩ := hSw; go_simp; with_reducible rfl
    simp only [Act.put, List.setIfInBounds_toArray, List.set_cons_zero, List.set_cons_succ]
    refine take_at 7 41 (v := ?_) rfl rfl (by kernel_rfl) (by kernel_rfl) (by kernel_rfl) (Or.inl ⟨by rfl, ?_⟩) hHeld ?_
    rotate_left
    · intro w hSw; go_simp; with_reducible rfl
    simp only [Act.put, List.setIfInBounds_toArray, List.set_cons_zero, List.set_cons_succ]
    refine take_at 8 42 (v := ?_) rfl rfl (by kernel_rfl) (by kernel_rfl) (by kernel_rfl) (Or.inl ⟨by rfl, ?_⟩) hHeld ?_
    rotate_left
    · intro w hSw; go_simp; with_reducible rfl
    simp only [Act.put, List.setIfInBounds_toArray, List.set_cons_zero, List.set_cons_succ]
    refine take_at 9 43 (v := ?_) rfl rfl (by kernel_rfl) (by kernel_rfl) (by kernel_rfl) (Or.inl ⟨by rfl, ?_⟩) hHeld ?_
    rotate_left
    · intro w hSw; go_simp; with_reducible rfl
    simp only [Act.put, List.setIfInBounds_toArray, List.set_cons_zero, List.set_cons_succ]
    refine take_at 10 44 (v := ?_) rfl rfl (by kernel_rfl) (by kernel_rfl) (by kernel_rfl) (Or.inl ⟨by rfl, ?_⟩) hHeld ?_
    rotate_left
    · intro w hSw; go_simp; with_reducible rfl
    simp only [Act.put, List.setIfInBounds_toArray, List.set_cons_zero, List.set_cons_succ]
    refine take_at 11 45 (v := ?_) rfl rfl (by kernel_rfl) (by kernel_rfl) (by kernel_rfl) (Or.inl ⟨by rfl, ?_⟩) hHeld ?_
    rotate_left
    · intro w hSw; go_simp; with_reducible rfl
    simp only [Act.put, List.setIfInBounds_toArray, List.set_cons_zero, List.set_cons_succ]
    refine take_at 12 46 (v := ?_) rfl rfl (by kernel_rfl) (by kernel_rfl) (by kernel_rfl) (Or.inl ⟨by rfl, ?_⟩) hHeld ?_
    rotate_left
    · intro w hSw; go_simp; with_reducible rfl
    simp only [Act.put, List.setIfInBounds_toArray, List.set_cons_zero, List.set_cons_succ]
    refine take_at 13 47 (v := ?_) rfl rfl (by kernel_rfl) (by kernel_rfl) (by kernel_rfl) (Or.inl ⟨by rfl, ?_⟩) hHeld ?_
    rotate_left
    · intro w hSw; obtain ⟨s1, s2, s3⟩ := hSw; go_simp; with_reducible rfl
    simp only [Act.put, List.setIfInBounds_toArray, List.set_cons_zero, List.set_cons_succ]
    refine take_at 14 48 rfl rfl (by kernel_rfl) (by kernel_rfl) (by kernel_rfl) (yieldsIf_load_mid (by rfl) 83 _ rfl g8 0 rfl LV.toList _ (fun w' h => h.2.2) Tryz.underlying83 rfl s8l) hHeld ?_
    simp only [Act.put, List.setIfInBounds_toArray, List.set_cons_zero, List.set_cons_succ]
    refine take_at 15 49 rfl rfl (by kernel_rfl) (by kernel_rfl) (by kernel_rfl) (yieldsIf_build3 (by rfl) 87 (.tmp 40) (.tmp 47) (.tmp 48) rfl (.int .i64 k) (.int .i64 v0) (.agg LV) rfl rfl rfl _ (unhide BO)) hHeld ?_
    simp only [Act.put, List.setIfInBounds_toArray, List.set_cons_zero, List.set_cons_succ]
    have K1 := (unhide OD).at g4 (.cells ZO 87) (by simp)
    have K2' : Hid ((w6.setRow g4 VO).heap[g4]? = some (.cells VO 87 (0, 0))) := setRow_heap _ _ _ _ _ _ K1
    refine wpAnyH_ready (rs := [16]) (by kernel_rfl) (by simp) ?_
    refine AllReadyH.cons rfl (fun K2 hK => ?_) AllReadyH.nil
    refine (if_pos (by rfl)).mpr ?_
    refine wp_store_row 87 (.tmp 4) (.tmp 49) rfl g4 VO rfl rfl _ _ K1 (unhide SV) (unhide SZ) (unhide XV) ?_
    have OT := hide ((unhide OD).row (unhide T0) g4 ZO 87 (0, 0) (by simp) VO)
    have h84 : g8 ≠ g4 := fun e => by
      have a1 := (unhide OD).at g8 (.cells LV 83) (by simp)
      rw [e, K1] at a1
      simp at a1
    have k8 : (w6.setRow g4 VO).heap[g8]? = some (.cells LV 83 (0, 0)) := (setRow_other _ _ _ _ h84).trans ((unhide OD).at g8 (.cells LV 83) (by simp))
    clear hHeld
    refine hK.out _ _ ⟨(unhide CEN _ (unhide OT).st.rep).1, (unhide CEN _ (unhide OT).st.rep).2.1, fun j v hv => by rw [cell_of_block k8, Nat.zero_add, ← Array.getElem?_toList]; exact hv⟩ (fun hNew => ?_)
    have hHeld := hNew
    clear hK K2 hNew K1 OD KS
    refine take_at 17 5 (v := ?_) rfl rfl (by kernel_rfl) (by kernel_rfl) (by kernel_rfl) (Or.inl ⟨by rfl, ?_⟩) hHeld ?_
    rotate_left
    · intro w hSw; go_simp; with_reducible rfl
    simp only [Act.put, List.setIfInBounds_toArray, List.set_cons_zero, List.set_cons_succ]
    refine wpAnyH_done (by kernel_rfl) ?_ _
    refine NoPanic.normal ?_
    clear hHeld
    go_wp2_with fail
    refine bodyPost_ret (v := .tuple #[.agg VO, .int .i64 0]) (results_two Tryz.results58 _ _ g4 87 VO (0, 0) _ _ rfl rfl (unhide K2') Tryz.underlying87 rfl (unhide SV)) rfl ?_
    rw [unhide HV]
    exact (unhide OT).done (unhide T0) _

theorem yget_any {W w : World} {z y f g : Nat} {St : Mm → World → (Nat → Prop) → Prop} {S : Sto} {K : Nat → En} {A : Mm} {G : Nat → Prop} (M : MemR W z St) (h : YHas W z y f g St S K A w G) (hA : A.ok 1000) (x : Int) :
    Calls Tryz.prog 58 #[.pointer (some ⟨y, 0, none⟩), .int .i64 x] w (Done (YHas W z y f g St S K A) w G (getT S A x)) := by
  by_cases hf : S.findE x = 0
  · by_cases hle : A.loadE (S.line x) = 0
    · exact yget_lit M h hA x hf hle
    · exact yget_dark M h hA x hf hle
  · exact yget_none M h x hf

end Go.Proofs.YtinhnnnehhlceaaGreat
