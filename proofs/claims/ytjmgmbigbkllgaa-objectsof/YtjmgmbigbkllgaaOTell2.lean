
/-
  Table, Base, Marked: what they tell.
-/
import Derived.Test.YtjmgmbigbkllgaaOTells
namespace Go.Proofs.Ytjmgmbigbkllgaa
open Go.ChangeShapes Go.WideShapes Go.ChangeAt Go.RowKit Go.Joins
set_option maxRecDepth 10000
set_option linter.unusedVariables false
set_option linter.unusedSimpArgs false

theorem results_cells2 {fn : Func} {p q : Tmp} {P : Program} {ty ty' : TypeId} (h : fn.results = #[.cell p ty, .cell q ty']) (tmps : Array Value) (w : World) (g g' : Nat) (t t' : TypeId) (cs cs' : Array Value) (fr fr' : Nat × Nat) (d d' : TypeDesc)
    (hp : tmps.getD p undef = .pointer (some ⟨g, 0, none⟩)) (hq : tmps.getD q undef = .pointer (some ⟨g', 0, none⟩)) (hg : w.heap[g]? = some (.cells cs t fr)) (hg' : w.heap[g']? = some (.cells cs' t' fr'))
    (hu : P.underlying ty = some d) (hd : (match d with | .struct _ | .array _ _ => true | _ => false) = true) (hi : (P.info? ty).map (·.size) = some cs.size)
    (hu' : P.underlying ty' = some d') (hd' : (match d' with | .struct _ | .array _ _ => true | _ => false) = true) (hi' : (P.info? ty').map (·.size) = some cs'.size) :
    (results fn tmps).run P w = .ok (.tuple #[.agg cs, .agg cs']) w := by
  have e : (results fn tmps).run P w = ((asAddr (tmps.getD p undef)).run P w).andThen fun a w₁ => ((loadVar ty a).run P w₁).andThen fun y w₂ => ((asAddr (tmps.getD q undef)).run P w₂).andThen fun a' w₃ => ((loadVar ty' a').run P w₃).andThen fun y' w₄ => .ok (.tuple #[y, y']) w₄ := by
    simp only [results, h]
    simp [Sem.run_bind, Result.andThen]
  rw [e, hp, hq]
  simp [asAddr, run_loadVar_row w g t ty cs fr d hg hu hd hi, run_loadVar_row w g' t' ty' cs' fr' d' hg' hu' hd' hi']

theorem table_obj {m : Nat} {S : Sto} {w : World} {b : Nat} (h : SRep m S w b) :
    Calls Try.prog 27 #[.pointer (some ⟨b, 0, none⟩)] w fun e w' => e = .returned (.agg (tabV S.w)) ∧ Below w.heap.size w w' := by
  have RW : Hid (∀ o : Obj, (w.alloc o).rangeAt b 1027 (tabV S.w).toList) := fun o => World.rangeAt_alloc h.rw o
  have s147 := s147_tab S.w
  have hsz : (tabV fun _ => ze).size = (tabV S.w).size := by rw [tabV_size, tabV_size]
  have KB := hide (fun c : Array Value => (Below.refl w.heap.size w).alloc (Nat.le_refl _) (.cells c 59))
  have HSZ := hide hsz
  clear h hsz
  go_enter Try.func27, Try.ntmps27
  go_wp2_with (first | (with_reducible refine wpList_allocZ (by with_unfolding_all rfl) 59 (by with_unfolding_all rfl) (tabV fun _ => ze) zero_tab ?_) | (with_reducible refine wpList_load_tab (by with_unfolding_all rfl) _ (by with_unfolding_all rfl) b 1027 (by with_unfolding_all rfl) S.w (unhide RW _) ?_) | (with_reducible refine wpList_store_row (by with_unfolding_all rfl) 59 _ _ (by with_unfolding_all rfl) w.heap.size (tabV S.w) (by with_unfolding_all rfl) (by with_unfolding_all rfl) 59 (tabV fun _ => ze) (heap_new w _) s147 (unhide HSZ) (tabV_one _) ?_; rw [setRow_alloc]))
  exact bodyPost_ret (v := .agg (tabV S.w)) (results_cell_row Try.results27 _ _ w.heap.size 59 (tabV S.w) (0, 0) _ rfl (heap_new w _) Try.underlying59 rfl s147) rfl ⟨rfl, unhide KB _⟩

theorem base_obj {m : Nat} {S : Sto} {w : World} {b : Nat} (h : SRep m S w b) :
    Calls Try.prog 22 #[.pointer (some ⟨b, 0, none⟩)] w fun e w' => e = .returned (.tuple #[.agg (tabV S.b), .agg (dirV S.d)]) ∧ Below w.heap.size w w' := by
  have RB : Hid (∀ w', Below w.heap.size w w' → w'.rangeAt b 1174 (tabV S.b).toList) := fun w' hb => (h.below hb).rb
  have RD : Hid (∀ w', Below w.heap.size w w' → w'.rangeAt b 1321 (dirV S.d).toList) := fun w' hb => (h.below hb).rd
  have s147 := s147_tab S.b
  have s8 := s8_dir S.d
  have hsz : Hid ((tabV fun _ => ze).size = (tabV S.b).size) := by show _ = _; rw [tabV_size, tabV_size]
  have hsd : Hid ((dirV fun _ => 0).size = (dirV S.d).size) := by show _ = _; rw [dirV_size, dirV_size]
  have O2 := hide (((Own.start w).alloc (.cells (tabV fun _ => ze) 59)).alloc (.cells (dirV fun _ => 0) 60))
  have h2 : (w.alloc (.cells (tabV fun _ => ze) 59)).heap.size = w.heap.size + 1 := by simp
  rw [h2] at O2
  have HT1 := hide (tabV_one S.b)
  have HT2 := hide (dirV_one S.d)
  clear h
  generalize tabV S.b = TB at *
  generalize dirV S.d = DB at *
  have zt := zero_tab
  have zd := zero_dir
  generalize (tabV fun _ => ze) = ZT at *
  generalize (dirV fun _ => 0) = ZD at *
  have ZT1 := hide zt
  have ZD1 := hide zd
  clear zt zd h2
  go_enter Try.func22, Try.ntmps22
  go_upto_region 1 with (first | (with_reducible refine wpList_allocZ (by with_unfolding_all rfl) 59 (by with_unfolding_all rfl) ZT (unhide ZT1) ?_) | (with_reducible refine wpList_allocZ (by with_unfolding_all rfl) 60 (by with_unfolding_all rfl) ZD (unhide ZD1) ?_))
  have h2 : (w.alloc (.cells ZT 59)).heap.size = w.heap.size + 1 := by simp
  try rw [h2]
  generalize (w.alloc (.cells ZT 59)).alloc (.cells ZD 60) = U at *
  clear h2
  refine wp_region_noPanic ?_
  refine wp_region_held_drew (S := fun w' => Below w.heap.size w w') (by kernel_rfl) (unhide O2).drew.1 (fun hHeld => ?_)
  refine take_at 0 4 (v := ?_) rfl rfl (by kernel_rfl) (by kernel_rfl) (by kernel_rfl) (Or.inl ⟨by rfl, ?_⟩) hHeld ?_
  rotate_left
  · intro w hSw; go_simp; with_reducible rfl
  simp only [Act.put, List.setIfInBounds_toArray, List.set_cons_zero, List.set_cons_succ]
  refine take_at 1 5 (v := ?_) rfl rfl (by kernel_rfl) (by kernel_rfl) (by kernel_rfl) (Or.inl ⟨by rfl, ?_⟩) hHeld ?_
  rotate_left
  · intro w hSw; go_simp; with_reducible rfl
  simp only [Act.put, List.setIfInBounds_toArray, List.set_cons_zero, List.set_cons_succ]
  refine take_at 2 6 (v := ?_) rfl rfl (by kernel_rfl) (by kernel_rfl) (by kernel_rfl) (Or.inl ⟨by rfl, ?_⟩) hHeld ?_
  rotate_left
  · intro w hSw; go_simp; with_reducible rfl
  simp only [Act.put, List.setIfInBounds_toArray, List.set_cons_zero, List.set_cons_succ]
  refine take_at 3 7 rfl rfl (by kernel_rfl) (by kernel_rfl) (by kernel_rfl) (yieldsIf_load_mid (by rfl) 59 _ rfl b 1174 rfl TB.toList _ (fun w' h => unhide RB w' h) Try.underlying59 rfl (by rw [Array.length_toList]; exact s147)) hHeld ?_
  simp only [Act.put, List.setIfInBounds_toArray, List.set_cons_zero, List.set_cons_succ]
  refine take_at 4 8 (v := ?_) rfl rfl (by kernel_rfl) (by kernel_rfl) (by kernel_rfl) (Or.inl ⟨by rfl, ?_⟩) hHeld ?_
  rotate_left
  · intro w hSw; go_simp; with_reducible rfl
  simp only [Act.put, List.setIfInBounds_toArray, List.set_cons_zero, List.set_cons_succ]
  refine take_at 5 9 (v := ?_) rfl rfl (by kernel_rfl) (by kernel_rfl) (by kernel_rfl) (Or.inl ⟨by rfl, ?_⟩) hHeld ?_
  rotate_left
  · intro w hSw; go_simp; with_reducible rfl
  simp only [Act.put, List.setIfInBounds_toArray, List.set_cons_zero, List.set_cons_succ]
  refine take_at 6 10 (v := ?_) rfl rfl (by kernel_rfl) (by kernel_rfl) (by kernel_rfl) (Or.inl ⟨by rfl, ?_⟩) hHeld ?_
  rotate_left
  · intro w hSw; go_simp; with_reducible rfl
  simp only [Act.put, List.setIfInBounds_toArray, List.set_cons_zero, List.set_cons_succ]
  refine take_at 7 11 rfl rfl (by kernel_rfl) (by kernel_rfl) (by kernel_rfl) (yieldsIf_load_mid (by rfl) 60 _ rfl b 1321 rfl DB.toList _ (fun w' h => unhide RD w' h) Try.underlying60 rfl (by rw [Array.length_toList]; exact s8)) hHeld ?_
  simp only [Act.put, List.setIfInBounds_toArray, List.set_cons_zero, List.set_cons_succ]
  have O3 := hide (unhide O2).drew
  generalize U.drew = V at *
  have K1 := (unhide O3).at w.heap.size (.cells ZT 59) (by simp)
  refine wpAnyH_ready (rs := [8]) (by kernel_rfl) (by simp) ?_
  refine AllReadyH.cons rfl (fun K hK => ?_) AllReadyH.nil
  refine (if_pos (by rfl)).mpr ?_
  refine wp_store_row 59 (.tmp 2) (.tmp 7) rfl w.heap.size TB rfl rfl _ _ K1 s147 (unhide hsz) (unhide HT1) ?_
  have O4 := hide ((unhide O3).row w.heap.size TB 59 (0, 0) ZT K1 (Nat.le_refl _))
  clear hHeld K1
  refine hK.out _ _ (unhide O4).1 (fun hNew => ?_)
  clear hK K O3 hNew
  generalize V.setRow w.heap.size TB = V1 at *
  have K2 := (unhide O4).at (w.heap.size + 1) (.cells ZD 60) (by simp)
  refine wpAnyH_ready (rs := [9]) (by kernel_rfl) (by simp) ?_
  refine AllReadyH.cons rfl (fun K hK => ?_) AllReadyH.nil
  refine (if_pos (by rfl)).mpr ?_
  refine wp_store_row 60 (.tmp 3) (.tmp 11) rfl (w.heap.size + 1) DB rfl rfl _ _ K2 s8 (unhide hsd) (unhide HT2) ?_
  have O5 := hide ((unhide O4).row (w.heap.size + 1) DB 60 (0, 0) ZD K2 (Nat.le_succ _))
  clear K2
  refine hK.out _ _ (unhide O5).1 (fun hNew => ?_)
  clear hK K O4 hNew
  refine wpAnyH_done (by kernel_rfl) ?_ _
  refine NoPanic.normal ?_
  go_wp2_with fail
  exact bodyPost_ret (v := .tuple #[.agg TB, .agg DB]) (results_cells2 Try.results22 _ _ w.heap.size (w.heap.size + 1) 59 60 TB DB (0, 0) (0, 0) _ _ rfl rfl ((unhide O5).at w.heap.size (.cells TB 59) (by simp)) ((unhide O5).at (w.heap.size + 1) (.cells DB 60) (by simp)) Try.underlying59 rfl s147 Try.underlying60 rfl s8) rfl ⟨rfl, (unhide O5).1⟩

end Go.Proofs.Ytjmgmbigbkllgaa
