import Derived.Test.YtiafhcgaikapcaaGreatPkSto
import Derived.Test.YtiafhcgaikapcaaGreatFMake

/-
  What tells of a store: Table, Base, Marked, Left; Take, Mark.
-/
namespace Go.Proofs.YtiafhcgaikapcaaGreat
open Go.ChangeShapes Go.WideShapes Go.ChangeAt Go.RowKit Go.Joins
set_option maxRecDepth 10000
set_option linter.unusedVariables false
set_option linter.unusedSimpArgs false

def dirTo8 (d : Nat → Int) : List Int := (List.range 8).map d
/-- A Dir by value. -/
def dirV (d : Nat → Int) : Array Value := iv .i64 (dirTo8 d)
theorem dirV_size (d : Nat → Int) : (dirV d).size = 8 := by unfold dirV; rw [iv_size]; simp [dirTo8]
theorem dirV_one (d : Nat → Int) : (dirV d).all (·.oneCell') = true := iv_one _ _
theorem dirV_list (d : Nat → Int) : (dirV d).toList = (List.range 8).map fun j => Value.int .i64 (d j) := by simp [dirV, iv, dirTo8]
theorem s8_dir (d : Nat → Int) : (Tryz.prog.info? 67).map (·.size) = some (dirV d).size := by rw [dirV_size]; kernel_rfl
theorem SRep.rd {m : Nat} {S : Sto} {w : World} {b : Nat} (h : SRep m S w b) : w.rangeAt b 1321 (dirV S.d).toList := by rw [dirV_list]; exact Blk.range h 1321 8 (by decide) _ fun j hj => stF_d m S j hj
theorem zero_tab : (Tryz.prog.info? 66).map (·.zero) = some (some (.agg (tabV fun _ => ze))) := by kernel_rfl
theorem zero_dir : (Tryz.prog.info? 67).map (·.zero) = some (some (.agg (dirV fun _ => 0))) := by kernel_rfl
theorem SRep.cis {m : Nat} {S : Sto} {w : World} {b : Nat} (h : SRep m S w b) : w.cell? ⟨b, 1476, none⟩ = some (.bool S.is) := Blk.cell h 1476 (by decide)

theorem keeps_cells (b : Nat) (vs : List Value) : ∀ (w : World) (o : Nat), Keeps (· = b) w (w.setCells b o vs) := by
  induction vs with
  | nil => exact fun w o => Keeps.refl _ _
  | cons v r ih => exact fun w o => (Keeps.setCell (F := (· = b)) (p := ⟨b, o, none⟩) (Keeps.refl _ _) rfl v).trans' (ih _ (o + 1))
theorem tabV_get (f : Nat → En) (j : Nat) (h : j < 147) : (tabV f).toList.getD j undef = .int .i64 (fl3 f j) := by
  rw [tabV_list, List.getD_eq_getElem?_getD, List.getElem?_map, List.getElem?_range h]; rfl
theorem dirV_get (d : Nat → Int) (j : Nat) (h : j < 8) : (dirV d).toList.getD j undef = .int .i64 (d j) := by
  rw [dirV_list, List.getD_eq_getElem?_getD, List.getElem?_map, List.getElem?_range h]; rfl
section
variable {m : Nat} {S : Sto} {w : World} {b : Nat}
theorem SRep.putK (h : SRep m S w b) (f : Nat → En) : SRep m ⟨S.F, S.w, S.b, S.d, f, S.is⟩ (w.setCells b 1329 (tabV f).toList) b := by
  refine (Blk.sets (tabV f).toList w _ 1329 h).ext fun j hj => ?_
  rw [Array.length_toList, tabV_size]
  by_cases c : 1329 ≤ j ∧ j < 1329 + 147
  · obtain ⟨n, rfl⟩ : ∃ n, j = 1329 + n := ⟨j - 1329, by omega⟩
    rw [if_pos c, show 1329 + n - 1329 = n by omega, tabV_get f n (by omega), stF_k _ _ _ (by omega)]
  · rw [if_neg c]
    unfold stF
    by_cases h0 : j = 0
    · rw [if_pos h0, if_pos h0]
    · rw [if_neg h0, if_neg h0]
      by_cases h1 : j < 1027
      · rw [if_pos h1, if_pos h1]
      · rw [if_neg h1, if_neg h1]
        by_cases h2 : j < 1174
        · rw [if_pos h2, if_pos h2]
        · rw [if_neg h2, if_neg h2]
          by_cases h3 : j < 1321
          · rw [if_pos h3, if_pos h3]
          · rw [if_neg h3, if_neg h3]
            by_cases h4 : j < 1329
            · rw [if_pos h4, if_pos h4]
            · rw [if_neg h4, if_neg h4, if_neg (show ¬ j < 1476 by omega), if_neg (show ¬ j < 1476 by omega)]
theorem SRep.putB (h : SRep m S w b) (f : Nat → En) : SRep m ⟨S.F, S.w, f, S.d, S.k, S.is⟩ (w.setCells b 1174 (tabV f).toList) b := by
  refine (Blk.sets (tabV f).toList w _ 1174 h).ext fun j hj => ?_
  rw [Array.length_toList, tabV_size]
  by_cases c : 1174 ≤ j ∧ j < 1174 + 147
  · obtain ⟨n, rfl⟩ : ∃ n, j = 1174 + n := ⟨j - 1174, by omega⟩
    rw [if_pos c, show 1174 + n - 1174 = n by omega, tabV_get f n (by omega), stF_b _ _ _ (by omega)]
  · rw [if_neg c]
    unfold stF
    by_cases h0 : j = 0
    · rw [if_pos h0, if_pos h0]
    · rw [if_neg h0, if_neg h0]
      by_cases h1 : j < 1027
      · rw [if_pos h1, if_pos h1]
      · rw [if_neg h1, if_neg h1]
        by_cases h2 : j < 1174
        · rw [if_pos h2, if_pos h2]
        · rw [if_neg h2, if_neg h2, if_neg (show ¬ j < 1321 by omega), if_neg (show ¬ j < 1321 by omega)]
theorem SRep.putD (h : SRep m S w b) (d : Nat → Int) : SRep m ⟨S.F, S.w, S.b, d, S.k, S.is⟩ (w.setCells b 1321 (dirV d).toList) b := by
  refine (Blk.sets (dirV d).toList w _ 1321 h).ext fun j hj => ?_
  rw [Array.length_toList, dirV_size]
  by_cases c : 1321 ≤ j ∧ j < 1321 + 8
  · obtain ⟨n, rfl⟩ : ∃ n, j = 1321 + n := ⟨j - 1321, by omega⟩
    rw [if_pos c, show 1321 + n - 1321 = n by omega, dirV_get d n (by omega), stF_d _ _ _ (by omega)]
  · rw [if_neg c]
    unfold stF
    by_cases h0 : j = 0
    · rw [if_pos h0, if_pos h0]
    · rw [if_neg h0, if_neg h0]
      by_cases h1 : j < 1027
      · rw [if_pos h1, if_pos h1]
      · rw [if_neg h1, if_neg h1]
        by_cases h2 : j < 1174
        · rw [if_pos h2, if_pos h2]
        · rw [if_neg h2, if_neg h2]
          by_cases h3 : j < 1321
          · rw [if_pos h3, if_pos h3]
          · rw [if_neg h3, if_neg h3, if_neg (show ¬ j < 1329 by omega), if_neg (show ¬ j < 1329 by omega)]
theorem SRep.putIs (h : SRep m S w b) (x : Bool) : SRep m ⟨S.F, S.w, S.b, S.d, S.k, x⟩ (w.setCell ⟨b, 1476, none⟩ (.bool x)) b := by
  refine (Blk.set h 1476 (.bool x)).ext fun j hj => ?_
  by_cases e : j = 1476
  · subst e; rw [upd_same]; rfl
  · rw [upd_other _ _ _ _ e]
    unfold stF
    by_cases h0 : j = 0
    · rw [if_pos h0, if_pos h0]
    · rw [if_neg h0, if_neg h0]
      by_cases h1 : j < 1027
      · rw [if_pos h1, if_pos h1]
      · rw [if_neg h1, if_neg h1]
        by_cases h2 : j < 1174
        · rw [if_pos h2, if_pos h2]
        · rw [if_neg h2, if_neg h2]
          by_cases h3 : j < 1321
          · rw [if_pos h3, if_pos h3]
          · rw [if_neg h3, if_neg h3]
            by_cases h4 : j < 1329
            · rw [if_pos h4, if_pos h4]
            · rw [if_neg h4, if_neg h4, if_pos (show j < 1476 by omega), if_pos (show j < 1476 by omega)]
end

theorem left_objF {m : Nat} {S : Sto} {w : World} {b : Nat} (h : SRep m S w b) (hS : S.F.ok) :
    Calls Tryz.prog 36 #[.pointer (some ⟨b, 0, none⟩)] w fun e w' => e = .returned (.int .i64 (S.F.left : Int)) ∧ w' = w := by
  have CL := hide (sleft_any h.frs hS)
  clear h hS
  go_enter Tryz.func36, Tryz.ntmps36
  go_wp2_with fail
  refine (unhide CL).mono ?_
  rintro e w ⟨rfl, rfl⟩
  go_wp2_with fail
  go_ret
  exact ⟨rfl, rfl⟩

theorem left_obj {m : Nat} {S : Sto} {w : World} {b : Nat} (h : SRep m S w b) (hS : S.ok) :
    Calls Tryz.prog 36 #[.pointer (some ⟨b, 0, none⟩)] w fun e w' => e = .returned (.int .i64 (S.F.left : Int)) ∧ w' = w := left_objF h hS.1
theorem take_obj {W w : World} {m b : Nat} {St : Mm → World → (Nat → Prop) → Prop} {S : Sto} {A : Mm} {G : Nat → Prop} (M : MemL W m St) (h : SHas W m b St S A w G) (hS : S.ok) :
    Calls Tryz.prog 209 #[.pointer (some ⟨b, 0, none⟩)] w (Done (SHas W m b St S.took A) w G (.tuple #[.int .i64 S.F.allocV, .int .i64 S.F.allocE])) := by
  have CA := hide (salloc_any h.rep.frs hS.1)
  have HH := hide h
  clear h hS
  generalize S.F.allocV = V at *
  generalize S.F.allocE = E at *
  go_enter Tryz.func209, Tryz.ntmps209
  go_wp2_with fail
  refine (unhide CA).mono ?_
  intro e w1 hw
  obtain ⟨rfl, h1, h2⟩ := (unhide HH).went M hw
  have H1 := hide h1
  have H2 := hide h2
  clear hw h1 h2 HH CA
  go_wp2_with fail
  go_ret2
  exact ⟨rfl, unhide H1, unhide H2⟩

theorem mark_obj {W w : World} {m b : Nat} {St : Mm → World → (Nat → Prop) → Prop} {S : Sto} {A : Mm} {G : Nat → Prop} (M : MemL W m St) (h : SHas W m b St S A w G) :
    Calls Tryz.prog 86 #[.pointer (some ⟨b, 0, none⟩)] w (Done (SHas W m b St S.markS A) w G (.int .i64 S.markE)) := by
  have ci := h.rep.cis
  cases hi : S.is with
  | true =>
    have e1 : S.markS = S := by unfold Sto.markS; rw [hi]; rfl
    have e2 : S.markE = 3 := by unfold Sto.markE; rw [hi]; rfl
    rw [e1, e2]
    rw [hi] at ci
    have HH := hide h
    clear h hi e1 e2
    go_enter Tryz.func86, Tryz.ntmps86
    go_wp2_with fail
    go_ret
    exact ⟨rfl, unhide HH, fun _ _ => rfl⟩
  | false =>
    have e1 : S.markS = ⟨S.F, S.w, S.b, S.d, S.w, true⟩ := by unfold Sto.markS; rw [hi]; rfl
    have e2 : S.markE = 0 := by unfold Sto.markE; rw [hi]; rfl
    rw [e1, e2]
    rw [hi] at ci
    have HH := hide h
    have RW := hide h.rep.rw
    have R1 : SRep m ⟨S.F, S.w, S.b, S.d, S.w, S.is⟩ (w.setCells b 1329 (tabV S.w).toList) b := h.rep.putK S.w
    have R2 := hide (R1.putIs true)
    have TH := hide (Blk.there h.rep 1329 147 (by decide))
    have cs : (w.setCells b 1329 (tabV S.w).toList).cell? ⟨b, 1476, none⟩ = some (.bool S.is) := R1.cis
    have fs : (w.setCells b 1329 (tabV S.w).toList).frozen? ⟨b, 1476, none⟩ = false := Blk.free R1 _
    have KP := hide (((keeps_cells b (tabV S.w).toList w 1329)).trans' (Keeps.setCell (F := (· = b)) (p := ⟨b, 1476, none⟩) (Keeps.refl _ _) rfl (.bool true)))
    have s147 := s147_tab S.w
    have hsz : (tabV S.w).size = 147 := tabV_size _
    clear h hi e1 e2 R1
    rw [← hsz] at TH
    clear hsz
    go_enter Tryz.func86, Tryz.ntmps86
    go_wp2_with (first | (with_reducible refine wpList_load_tab (by with_unfolding_all rfl) _ (by with_unfolding_all rfl) b 1027 (by with_unfolding_all rfl) S.w (unhide RW) ?_) | (with_reducible refine wpList_store_mid (by with_unfolding_all rfl) 66 _ _ (by with_unfolding_all rfl) b 1329 (tabV S.w) (by with_unfolding_all rfl) (by with_unfolding_all rfl) (unhide TH) s147 (tabV_one _) ?_))
    go_ret
    have := (unhide HH).turned M (unhide R2) (unhide KP)
    exact ⟨rfl, this.1, this.2⟩

end Go.Proofs.YtiafhcgaikapcaaGreat


/-
  Table, Base, Marked: what they tell.
-/
namespace Go.Proofs.YtiafhcgaikapcaaGreat
open Go.ChangeShapes Go.WideShapes Go.ChangeAt Go.RowKit Go.Joins
set_option maxRecDepth 10000
set_option linter.unusedVariables false
set_option linter.unusedSimpArgs false

theorem results_cells2 {fn : Func} {p q : Tmp} {P : Program} {ty ty' : TypeId} (h : fn.results = #[.cell p ty, .cell q ty']) (tmps : Array Value) (w : World) (g g' : Nat) (t t' : TypeId) (cs cs' : Array Value) (fr fr' : Nat × Nat) (d d' : TypeDesc)
    (hp : tmps.getD p undef = .pointer (some ⟨g, 0, none⟩)) (hq : tmps.getD q undef = .pointer (some ⟨g', 0, none⟩)) (hg : w.heap[g]? = some (.cells cs t fr)) (hg' : w.heap[g']? = some (.cells cs' t' fr'))
    (hu : P.underlying ty = some d) (hd : (match d with | .struct _ | .array _ _ => true | _ => false) = true) (hi : (P.info? ty).map (·.size) = some cs.size)
    (hu' : P.underlying ty' = some d') (hd' : (match d' with | .struct _ | .array _ _ => true | _ => false) = true) (hi' : (P.info? ty').map (·.size) = some cs'.size) :
    (results fn tmps).run P w = .ok (.tuple #[.agg cs, .agg cs']) w := by
  have e : (results fn tmps).run P w = ((asAddr (tmps.getD p undef)).run P w).andThen fun a w₁ => ((loadVar ty a).run P w₁).andThen fun y w₂ => ((asAddr (tmps.getD q undef)).run P w₂).andThen fun a' w₃ => ((loadVar ty' a').run P w₃).andThen fun y' w₄ => .ok (.tuple #[y, y']) w₄ := by
    simp only [results, h]
    simp [Sem.run_bind, Result.andThen]
  rw [e, hp, hq]
  simp [asAddr, run_loadVar_row w g t ty cs fr d hg hu hd hi, run_loadVar_row w g' t' ty' cs' fr' d' hg' hu' hd' hi']

theorem table_obj {m : Nat} {S : Sto} {w : World} {b : Nat} (h : SRep m S w b) :
    Calls Tryz.prog 39 #[.pointer (some ⟨b, 0, none⟩)] w fun e w' => e = .returned (.agg (tabV S.w)) ∧ Below w.heap.size w w' := by
  have RW : Hid (∀ o : Obj, (w.alloc o).rangeAt b 1027 (tabV S.w).toList) := fun o => World.rangeAt_alloc h.rw o
  have s147 := s147_tab S.w
  have hsz : (tabV fun _ => ze).size = (tabV S.w).size := by rw [tabV_size, tabV_size]
  have KB := hide (fun c : Array Value => (Below.refl w.heap.size w).alloc (Nat.le_refl _) (.cells c 66))
  have HSZ := hide hsz
  clear h hsz
  go_enter Tryz.func39, Tryz.ntmps39
  go_wp2_with (first | (with_reducible refine wpList_allocZ (by with_unfolding_all rfl) 66 (by with_unfolding_all rfl) (tabV fun _ => ze) zero_tab ?_) | (with_reducible refine wpList_load_tab (by with_unfolding_all rfl) _ (by with_unfolding_all rfl) b 1027 (by with_unfolding_all rfl) S.w (unhide RW _) ?_) | (with_reducible refine wpList_store_row (by with_unfolding_all rfl) 66 _ _ (by with_unfolding_all rfl) w.heap.size (tabV S.w) (by with_unfolding_all rfl) (by with_unfolding_all rfl) 66 (tabV fun _ => ze) (heap_new w _) s147 (unhide HSZ) (tabV_one _) ?_; rw [setRow_alloc]))
  exact bodyPost_ret (v := .agg (tabV S.w)) (results_cell_row Tryz.results39 _ _ w.heap.size 66 (tabV S.w) (0, 0) _ rfl (heap_new w _) Tryz.underlying66 rfl s147) rfl ⟨rfl, unhide KB _⟩

theorem base_obj {m : Nat} {S : Sto} {w : World} {b : Nat} (h : SRep m S w b) :
    Calls Tryz.prog 34 #[.pointer (some ⟨b, 0, none⟩)] w fun e w' => e = .returned (.tuple #[.agg (tabV S.b), .agg (dirV S.d)]) ∧ Below w.heap.size w w' := by
  have RB : Hid (∀ w', Below w.heap.size w w' → w'.rangeAt b 1174 (tabV S.b).toList) := fun w' hb => (h.below hb).rb
  have RD : Hid (∀ w', Below w.heap.size w w' → w'.rangeAt b 1321 (dirV S.d).toList) := fun w' hb => (h.below hb).rd
  have s147 := s147_tab S.b
  have s8 := s8_dir S.d
  have hsz : Hid ((tabV fun _ => ze).size = (tabV S.b).size) := by show _ = _; rw [tabV_size, tabV_size]
  have hsd : Hid ((dirV fun _ => 0).size = (dirV S.d).size) := by show _ = _; rw [dirV_size, dirV_size]
  have O2 := hide (((Own.start w).alloc (.cells (tabV fun _ => ze) 66)).alloc (.cells (dirV fun _ => 0) 67))
  have h2 : (w.alloc (.cells (tabV fun _ => ze) 66)).heap.size = w.heap.size + 1 := by simp
  rw [h2] at O2
  have HT1 := hide (tabV_one S.b)
  have HT2 := hide (dirV_one S.d)
  clear h
  generalize tabV S.b = TB at *
  generalize dirV S.d = DB at *
  have zt := zero_tab
  have zd := zero_dir
  generalize (tabV fun _ => ze) = ZT at *
  generalize (dirV fun _ => 0) = ZD at *
  have ZT1 := hide zt
  have ZD1 := hide zd
  clear zt zd h2
  go_enter Tryz.func34, Tryz.ntmps34
  go_upto_region 1 with (first | (with_reducible refine wpList_allocZ (by with_unfolding_all rfl) 66 (by with_unfolding_all rfl) ZT (unhide ZT1) ?_) | (with_reducible refine wpList_allocZ (by with_unfolding_all rfl) 67 (by with_unfolding_all rfl) ZD (unhide ZD1) ?_))
  have h2 : (w.alloc (.cells ZT 66)).heap.size = w.heap.size + 1 := by simp
  try rw [h2]
  generalize (w.alloc (.cells ZT 66)).alloc (.cells ZD 67) = U at *
  clear h2
  refine wp_region_noPanic ?_
  refine wp_region_held_drew (S := fun w' => Below w.heap.size w w') (by kernel_rfl) (unhide O2).drew.1 (fun hHeld => ?_)
  refine take_at 0 4 (v := ?_) rfl rfl (by kernel_rfl) (by kernel_rfl) (by kernel_rfl) (Or.inl ⟨by rfl, ?_⟩) hHeld ?_
  rotate_left
  · intro w hSw; go_simp; with_reducible rfl
  simp only [Act.put, List.setIfInBounds_toArray, List.set_cons_zero, List.set_cons_succ]
  refine take_at 1 5 (v := ?_) rfl rfl (by kernel_rfl) (by kernel_rfl) (by kernel_rfl) (Or.inl ⟨by rfl, ?_⟩) hHeld ?_
  rotate_left
  · intro w hSw; go_simp; with_reducible rfl
  simp only [Act.put, List.setIfInBounds_toArray, List.set_cons_zero, List.set_cons_succ]
  refine take_at 2 6 (v := ?_) rfl rfl (by kernel_rfl) (by kernel_rfl) (by kernel_rfl) (Or.inl ⟨by rfl, ?_⟩) hHeld ?_
  rotate_left
  · intro w hSw; go_simp; with_reducible rfl
  simp only [Act.put, List.setIfInBounds_toArray, List.set_cons_zero, List.set_cons_succ]
  refine take_at 3 7 rfl rfl (by kernel_rfl) (by kernel_rfl) (by kernel_rfl) (yieldsIf_load_mid (by rfl) 66 _ rfl b 1174 rfl TB.toList _ (fun w' h => unhide RB w' h) Tryz.underlying66 rfl (by rw [Array.length_toList]; exact s147)) hHeld ?_
  simp only [Act.put, List.setIfInBounds_toArray, List.set_cons_zero, List.set_cons_succ]
  refine take_at 4 8 (v := ?_) rfl rfl (by kernel_rfl) (by kernel_rfl) (by kernel_rfl) (Or.inl ⟨by rfl, ?_⟩) hHeld ?_
  rotate_left
  · intro w hSw; go_simp; with_reducible rfl
  simp only [Act.put, List.setIfInBounds_toArray, List.set_cons_zero, List.set_cons_succ]
  refine take_at 5 9 (v := ?_) rfl rfl (by kernel_rfl) (by kernel_rfl) (by kernel_rfl) (Or.inl ⟨by rfl, ?_⟩) hHeld ?_
  rotate_left
  · intro w hSw; go_simp; with_reducible rfl
  simp only [Act.put, List.setIfInBounds_toArray, List.set_cons_zero, List.set_cons_succ]
  refine take_at 6 10 (v := ?_) rfl rfl (by kernel_rfl) (by kernel_rfl) (by kernel_rfl) (Or.inl ⟨by rfl, ?_⟩) hHeld ?_
  rotate_left
  · intro w hSw; go_simp; with_reducible rfl
  simp only [Act.put, List.setIfInBounds_toArray, List.set_cons_zero, List.set_cons_succ]
  refine take_at 7 11 rfl rfl (by kernel_rfl) (by kernel_rfl) (by kernel_rfl) (yieldsIf_load_mid (by rfl) 67 _ rfl b 1321 rfl DB.toList _ (fun w' h => unhide RD w' h) Tryz.underlying67 rfl (by rw [Array.length_toList]; exact s8)) hHeld ?_
  simp only [Act.put, List.setIfInBounds_toArray, List.set_cons_zero, List.set_cons_succ]
  have O3 := hide (unhide O2).drew
  generalize U.drew = V at *
  have K1 := (unhide O3).at w.heap.size (.cells ZT 66) (by simp)
  refine wpAnyH_ready (rs := [8]) (by kernel_rfl) (by simp) ?_
  refine AllReadyH.cons rfl (fun K hK => ?_) AllReadyH.nil
  refine (if_pos (by rfl)).mpr ?_
  refine wp_store_row 66 (.tmp 2) (.tmp 7) rfl w.heap.size TB rfl rfl _ _ K1 s147 (unhide hsz) (unhide HT1) ?_
  have O4 := hide ((unhide O3).row w.heap.size TB 66 (0, 0) ZT K1 (Nat.le_refl _))
  clear hHeld K1
  refine hK.out _ _ (unhide O4).1 (fun hNew => ?_)
  clear hK K O3 hNew
  generalize V.setRow w.heap.size TB = V1 at *
  have K2 := (unhide O4).at (w.heap.size + 1) (.cells ZD 67) (by simp)
  refine wpAnyH_ready (rs := [9]) (by kernel_rfl) (by simp) ?_
  refine AllReadyH.cons rfl (fun K hK => ?_) AllReadyH.nil
  refine (if_pos (by rfl)).mpr ?_
  refine wp_store_row 67 (.tmp 3) (.tmp 11) rfl (w.heap.size + 1) DB rfl rfl _ _ K2 s8 (unhide hsd) (unhide HT2) ?_
  have O5 := hide ((unhide O4).row (w.heap.size + 1) DB 67 (0, 0) ZD K2 (Nat.le_succ _))
  clear K2
  refine hK.out _ _ (unhide O5).1 (fun hNew => ?_)
  clear hK K O4 hNew
  refine wpAnyH_done (by kernel_rfl) ?_ _
  refine NoPanic.normal ?_
  go_wp2_with fail
  exact bodyPost_ret (v := .tuple #[.agg TB, .agg DB]) (results_cells2 Tryz.results34 _ _ w.heap.size (w.heap.size + 1) 66 67 TB DB (0, 0) (0, 0) _ _ rfl rfl ((unhide O5).at w.heap.size (.cells TB 66) (by simp)) ((unhide O5).at (w.heap.size + 1) (.cells DB 67) (by simp)) Tryz.underlying66 rfl s147 Tryz.underlying67 rfl s8) rfl ⟨rfl, (unhide O5).1⟩

end Go.Proofs.YtiafhcgaikapcaaGreat


/-
  Get: an object, with its line; Marked.
-/
namespace Go.Proofs.YtiafhcgaikapcaaGreat
open Go.ChangeShapes Go.WideShapes Go.ChangeAt Go.RowKit Go.Joins
set_option maxRecDepth 10000
set_option linter.unusedVariables false
set_option linter.unusedSimpArgs false

theorem marked_obj {m : Nat} {S : Sto} {w : World} {b : Nat} (h : SRep m S w b) :
    Calls Tryz.prog 87 #[.pointer (some ⟨b, 0, none⟩)] w fun e w' => e = .returned (.tuple #[.agg (tabV S.k), .bool S.is]) ∧ Below w.heap.size w w' := by
  have RB : Hid (∀ w', Below w.heap.size w w' → w'.rangeAt b 1329 (tabV S.k).toList) := fun w' hb => (h.below hb).rk
  have RI : Hid (∀ w', Below w.heap.size w w' → w'.cell? ⟨b, 1476, none⟩ = some (.bool S.is)) := fun w' hb => (h.below hb).cis
  have s147 := s147_tab S.k
  have hsz : Hid ((tabV fun _ => ze).size = (tabV S.k).size) := by show _ = _; rw [tabV_size, tabV_size]
  have O2 := hide ((Own.start w).alloc (.cells (tabV fun _ => ze) 66))
  have HT1 := hide (tabV_one S.k)
  clear h
  generalize tabV S.k = TB at *
  generalize S.is = IS at *
  have zt := zero_tab
  generalize (tabV fun _ => ze) = ZT at *
  have ZT1 := hide zt
  clear zt
  go_enter Tryz.func87, Tryz.ntmps87
  go_upto_region 1 with (with_reducible refine wpList_allocZ (by with_unfolding_all rfl) 66 (by with_unfolding_all rfl) ZT (unhide ZT1) ?_)
  generalize w.alloc (.cells ZT 66) = U at *
  refine wp_region_noPanic ?_
  refine wp_region_held_drew (S := fun w' => Below w.heap.size w w') (by kernel_rfl) (unhide O2).drew.1 (fun hHeld => ?_)
  refine take_at 0 4 (v := ?_) rfl rfl (by kernel_rfl) (by kernel_rfl) (by kernel_rfl) (Or.inl ⟨by rfl, ?_⟩) hHeld ?_
  rotate_left
  · intro w hSw; go_simp; with_reducible rfl
  simp only [Act.put, List.setIfInBounds_toArray, List.set_cons_zero, List.set_cons_succ]
  refine take_at 1 5 (v := ?_) rfl rfl (by kernel_rfl) (by kernel_rfl) (by kernel_rfl) (Or.inl ⟨by rfl, ?_⟩) hHeld ?_
  rotate_left
  · intro w hSw; go_simp; with_reducible rfl
  simp only [Act.put, List.setIfInBounds_toArray, List.set_cons_zero, List.set_cons_succ]
  refine take_at 2 6 (v := ?_) rfl rfl (by kernel_rfl) (by kernel_rfl) (by kernel_rfl) (Or.inl ⟨by rfl, ?_⟩) hHeld ?_
  rotate_left
  · intro w hSw; go_simp; with_reducible rfl
  simp only [Act.put, List.setIfInBounds_toArray, List.set_cons_zero, List.set_cons_succ]
  refine take_at 3 7 rfl rfl (by kernel_rfl) (by kernel_rfl) (by kernel_rfl) (yieldsIf_load_mid (by rfl) 66 _ rfl b 1329 rfl TB.toList _ (fun w' h => unhide RB w' h) Tryz.underlying66 rfl (by rw [Array.length_toList]; exact s147)) hHeld ?_
  simp only [Act.put, List.setIfInBounds_toArray, List.set_cons_zero, List.set_cons_succ]
  refine take_at 4 8 (v := ?_) rfl rfl (by kernel_rfl) (by kernel_rfl) (by kernel_rfl) (Or.inl ⟨by rfl, ?_⟩) hHeld ?_
  rotate_left
  · intro w hSw; go_simp; with_reducible rfl
  simp only [Act.put, List.setIfInBounds_toArray, List.set_cons_zero, List.set_cons_succ]
  refine take_at 5 9 (v := ?_) rfl rfl (by kernel_rfl) (by kernel_rfl) (by kernel_rfl) (Or.inl ⟨by rfl, ?_⟩) hHeld ?_
  rotate_left
  · intro w hSw; go_simp; with_reducible rfl
  simp only [Act.put, List.setIfInBounds_toArray, List.set_cons_zero, List.set_cons_succ]
  refine take_at 6 10 (v := ?_) rfl rfl (by kernel_rfl) (by kernel_rfl) (by kernel_rfl) (Or.inl ⟨by rfl, ?_⟩) hHeld ?_
  rotate_left
  · intro w hSw; go_simp; with_reducible rfl
  simp only [Act.put, List.setIfInBounds_toArray, List.set_cons_zero, List.set_cons_succ]
  refine take_at 7 11 (v := ?_) rfl rfl (by kernel_rfl) (by kernel_rfl) (by kernel_rfl) (Or.inl ⟨by rfl, ?_⟩) hHeld ?_
  rotate_left
  · intro w hSw; have s1 := unhide RI _ hSw; go_simp; with_reducible rfl
  simp only [Act.put, List.setIfInBounds_toArray, List.set_cons_zero, List.set_cons_succ]
  have O3 := hide (unhide O2).drew
  generalize U.drew = V at *
  have K1 := (unhide O3).at w.heap.size (.cells ZT 66) (by simp)
  refine wpAnyH_ready (rs := [8]) (by kernel_rfl) (by simp) ?_
  refine AllReadyH.cons rfl (fun K hK => ?_) AllReadyH.nil
  refine (if_pos (by rfl)).mpr ?_
  refine wp_store_row 66 (.tmp 2) (.tmp 7) rfl w.heap.size TB rfl rfl _ _ K1 s147 (unhide hsz) (unhide HT1) ?_
  have O4 := hide ((unhide O3).row w.heap.size TB 66 (0, 0) ZT K1 (Nat.le_refl _))
  clear hHeld K1
  refine hK.out _ _ (unhide O4).1 (fun hNew => ?_)
  have hHeld := hNew
  clear hK K O3 hNew
  refine take_at 9 3 (v := ?_) rfl rfl (by kernel_rfl) (by kernel_rfl) (by kernel_rfl) (Or.inl ⟨by rfl, ?_⟩) hHeld ?_
  rotate_left
  · intro w hSw; go_simp; with_reducible rfl
  simp only [Act.put, List.setIfInBounds_toArray, List.set_cons_zero, List.set_cons_succ]
  refine wpAnyH_done (by kernel_rfl) ?_ _
  refine NoPanic.normal ?_
  clear hHeld
  go_wp2_with fail
  exact bodyPost_ret (v := .tuple #[.agg TB, .bool IS]) (results_two Tryz.results87 _ _ w.heap.size 66 TB (0, 0) _ _ rfl rfl ((unhide O4).at w.heap.size (.cells TB 66) (by simp)) Tryz.underlying66 rfl s147) rfl ⟨rfl, (unhide O4).1⟩

theorem wpList_buildO {ops : Array Oper} {rest : List Oper} {o : Oper} {a : Act} {w : World} {Q : Exit → Act → World → Prop} (hg : o.guard = none) (x y z : Operand) (ho : o.op = .build 88 #[(0, x), (1, y), (2, z)]) (u v l : Value) (hx : a.eval x = u) (hy : a.eval y = v) (hz : a.eval z = l) (cs : Array Value)
    (hb : Tryz.prog.built 88 [(0, u), (1, v), (2, l)] = some cs) (h : wpList Tryz.prog ops Q rest (a.put o.dst (.agg cs)) w) : wpList Tryz.prog ops Q (o :: rest) a w := by
  subst hx hy hz
  exact wpList_build hg 88 #[(0, x), (1, y), (2, z)] ho (by simp [hb]) (by simpa [hb] using h)
/-- An object by value: its kind, its version, its line. -/
def obV (k v : Int) (f : Nat → Int) : Array Value := #[.int .i64 k, .int .i64 v] ++ lnV f
theorem obV_size (k v : Int) (f : Nat → Int) : (obV k v f).size = 10 := by unfold obV; simp [lnV_size]
theorem obV_one (k v : Int) (f : Nat → Int) : (obV k v f).all (·.oneCell') = true := by unfold obV; rw [Array.all_append, lnV_one, Bool.and_true]; simp [Value.oneCell']
theorem s10_ob (k v : Int) (f : Nat → Int) : (Tryz.prog.info? 88).map (·.size) = some (obV k v f).size := by rw [obV_size]; kernel_rfl
theorem zero_ob : (Tryz.prog.info? 88).map (·.zero) = some (some (.agg (obV 0 0 fun _ => 0))) := by kernel_rfl
theorem build_ob0 : Tryz.prog.built 88 [] = some (obV 0 0 fun _ => 0) := by kernel_rfl
theorem build_ob (k v : Int) (f : Nat → Int) : Tryz.prog.built 88 [(0, .int .i64 k), (1, .int .i64 v), (2, .agg (lnV f))] = some (obV k v f) := by kernel_rfl
def Sto.getE (S : Sto) (A : Mm) (z : Int) : Int := if S.findE z = 0 then A.loadE (S.line z) else S.findE z
def Sto.getV (S : Sto) (A : Mm) (z : Int) : Array Value := if S.getE A z = 0 then obV (S.w z.toNat).k (S.w z.toNat).v (A.hasZ (S.line z)) else obV 0 0 fun _ => 0
def getT (S : Sto) (A : Mm) (z : Int) : Value := .tuple #[.agg (S.getV A z), .int .i64 (S.getE A z)]

theorem get_none {W w : World} {m b : Nat} {St : Mm → World → (Nat → Prop) → Prop} {S : Sto} {A : Mm} {G : Nat → Prop} (M : MemL W m St) (h : SHas W m b St S A w G) (z : Int) (hf : S.findE z ≠ 0) :
    Calls Tryz.prog 42 #[.pointer (some ⟨b, 0, none⟩), .int .i64 z] w (Done (SHas W m b St S A) w G (getT S A z)) := by
  have T0 := hide (SHas.stay M b S A)
  have O0 := hide ((Held.start (unhide T0) h).alloc (unhide T0) (.cells (obV 0 0 fun _ => 0) 88))
  have CF := hide (find_any (unhide O0).st.rep z)
  have hfb : (S.findE z != 0) = true := by simpa using hf
  have HA : Hid (foundV S z = .tuple #[.agg #[.int .i64 (S.at z).k, .int .i64 (S.at z).v, .int .i64 (S.at z).l], .int .i64 (S.findE z)]) := rfl
  rw [unhide HA] at CF
  have HV : Hid (getT S A z = .tuple #[.agg (obV 0 0 fun _ => 0), .int .i64 (S.findE z)]) := by
    have e : S.getE A z = S.findE z := if_neg hf
    show getT S A z = _
    unfold getT Sto.getV; rw [e, if_neg hf]
  have s10 := s10_ob 0 0 fun _ => 0
  have Z0 := hide zero_ob
  have B0 := hide build_ob0
  have X1 := hide (obV_one 0 0 fun _ => 0)
  clear hf h HA
  generalize (obV 0 0 fun _ => 0) = ZO at *
  generalize S.findE z = E at *
  generalize S.at z = X at *
  go_enter Tryz.func42, Tryz.ntmps42
  go_wp2_with (with_reducible refine wpList_allocZ (by with_unfolding_all rfl) 88 (by with_unfolding_all rfl) ZO (unhide Z0) ?_)
  refine (unhide CF).mono ?_
  rintro e w1 ⟨rfl, hb⟩
  have O1 := hide (((unhide O0).below (unhide T0) hb).alloc (unhide T0) (.cells #[.int .i64 X.k, .int .i64 X.v, .int .i64 X.l] 41))
  obtain ⟨g4, hg4⟩ : ∃ g4, g4 = w.heap.size := ⟨_, rfl⟩
  rw [← hg4] at O1 ⊢
  clear hb CF O0 hg4
  go_upto_region 3 with fail
  generalize w1.alloc (.cells #[.int .i64 X.k, .int .i64 X.v, .int .i64 X.l] 41) = w2 at *
  have K1 := hide ((unhide O1).at g4 (.cells ZO 88) (by simp))
  have K2 : Hid ((w2.setRow g4 ZO).heap[g4]? = some (.cells ZO 88 (0, 0))) := setRow_heap _ _ _ _ _ _ (unhide K1)
  go_wp2_with (first | (with_reducible refine wpList_build0 (by with_unfolding_all rfl) 88 (by with_unfolding_all rfl) ZO (unhide B0) ?_) | (with_reducible refine wpList_store_row (by with_unfolding_all rfl) 88 _ _ (by with_unfolding_all rfl) g4 ZO (by with_unfolding_all rfl) (by with_unfolding_all rfl) _ _ (unhide K1) s10 rfl (unhide X1) ?_))
  refine bodyPost_ret (v := .tuple #[.agg ZO, .int .i64 E]) (results_two Tryz.results42 _ _ g4 88 ZO (0, 0) _ _ rfl rfl (unhide K2) Tryz.underlying88 rfl s10) rfl ?_
  rw [unhide HV]
  have OT := (unhide O1).row (unhide T0) g4 ZO 88 (0, 0) (by simp) ZO
  exact OT.done (unhide T0) _

set_option maxHeartbeats 2000000 in
theorem get_dark {W w : World} {m b : Nat} {St : Mm → World → (Nat → Prop) → Prop} {S : Sto} {A : Mm} {G : Nat → Prop} (M : MemL W m St) (h : SHas W m b St S A w G) (hn : A.n ≤ 1024) (z : Int) (hf : S.findE z = 0) (hle : A.loadE (S.line z) ≠ 0) :
    Calls Tryz.prog 42 #[.pointer (some ⟨b, 0, none⟩), .int .i64 z] w (Done (SHas W m b St S A) w G (getT S A z)) := by
  have T0 := hide (SHas.stay M b S A)
  have O0 := hide ((Held.start (unhide T0) h).alloc (unhide T0) (.cells (obV 0 0 fun _ => 0) 88))
  have hz := findE_ok hf
  obtain ⟨i, rfl⟩ : ∃ i : Nat, z = (i : Int) := ⟨z.toNat, by omega⟩
  obtain ⟨k, v0, l, hx⟩ : ∃ k v0 l, S.w i = ⟨k, v0, l⟩ := ⟨_, _, _, rfl⟩
  have eL : S.line (i : Int) = l := by unfold Sto.line; rw [Int.toNat_natCast, hx]
  have CF := hide (find_any (unhide O0).st.rep (i : Int))
  have HA : Hid (foundV S (i : Int) = .tuple #[.agg #[.int .i64 k, .int .i64 v0, .int .i64 l], .int .i64 0]) := by
    show foundV S (i : Int) = _
    unfold foundV Sto.at; rw [if_pos hf, hf, Int.toNat_natCast, hx]; rfl
  rw [unhide HA] at CF
  rw [eL] at hle
  have eE : S.getE A (i : Int) = A.loadE l := by unfold Sto.getE; rw [if_pos hf, eL]
  obtain ⟨E, hE⟩ : ∃ E, A.loadE l = E := ⟨_, rfl⟩
  rw [hE] at hle eE
  have HV : Hid (getT S A (i : Int) = .tuple #[.agg (obV 0 0 fun _ => 0), .int .i64 E]) := by
    show getT S A (i : Int) = _
    unfold getT Sto.getV; rw [eE, if_neg hle]
  have hE1 : (E != 0) = true := by simpa using hle
  clear hle
  have hle := hE
  have S10 := hide (s10_ob 0 0 fun _ => 0)
  have Z0 := hide zero_ob
  have B0 := hide build_ob0
  have X1 := hide (obV_one 0 0 fun _ => 0)
  generalize (obV 0 0 fun _ => 0) = ZO at *
  have S8 := hide (s8_ln (A.hasZ l))
  have X8 := hide (lnV_one (A.hasZ l))
  have S8' : Hid ((#[.int .u64 0, .int .u64 0, .int .u64 0, .int .u64 0, .int .u64 0, .int .u64 0, .int .u64 0, .int .u64 0] : Array Value).size = (lnV (A.hasZ l)).size) := by show _ = _; rw [lnV_size]; rfl
  obtain ⟨LV, hLV⟩ : ∃ LV, LV = lnV (A.hasZ l) := ⟨_, rfl⟩
  have HLV := hide hLV.symm
  rw [← hLV] at S8 X8 S8'
  clear h hf hz HA hx eL eE hE hLV
  go_enter Tryz.func42, Tryz.ntmps42
  go_wp2_with (with_reducible refine wpList_allocZ (by with_unfolding_all rfl) 88 (by with_unfolding_all rfl) ZO (unhide Z0) ?_)
  refine (unhide CF).mono ?_
  rintro e w1 ⟨rfl, hb⟩
  have O3 := hide (((unhide O0).below (unhide T0) hb).alloc (unhide T0) (.cells #[.int .i64 k, .int .i64 v0, .int .i64 l] 41))
  obtain ⟨g4, hg4⟩ : ∃ g4, g4 = w.heap.size := ⟨_, rfl⟩
  obtain ⟨g6, hg6⟩ : ∃ g6, g6 = w1.heap.size := ⟨_, rfl⟩
  rw [← hg4, ← hg6] at O3
  rw [← hg4]
  clear hb CF O0 hg4
  go_upto_region 4 with fail
  try rw [← hg6]
  clear hg6
  generalize w1.alloc (.cells #[.int .i64 k, .int .i64 v0, .int .i64 l] 41) = w2 at *
  have cg2 : w2.cell? ⟨g6, 2, none⟩ = some (.int .i64 l) := by rw [cell_of_block ((unhide O3).at g6 (.cells #[.int .i64 k, .int .i64 v0, .int .i64 l] 41) (by simp))]; rfl
  have cb0 := (unhide O3).st.pm
  refine wp_region_noPanic ?_
  refine wp_region_held_drew (S := fun w' => w'.cell? ⟨b, 0, none⟩ = some (.pointer (some ⟨m, 0, none⟩)) ∧ w'.cell? ⟨g6, 2, none⟩ = some (.int .i64 l)) (by kernel_rfl) ⟨cb0, cg2⟩ (fun hHeld => ?_)
  refine take_at 0 20 (v := ?_) rfl rfl (by kernel_rfl) (by kernel_rfl) (by kernel_rfl) (Or.inl ⟨by rfl, ?_⟩) hHeld ?_
  rotate_left
  · intro w hSw; go_simp; with_reducible rfl
  simp only [Act.put, List.setIfInBounds_toArray, List.set_cons_zero, List.set_cons_succ]
  refine take_at 1 21 (v := ?_) rfl rfl (by kernel_rfl) (by kernel_rfl) (by kernel_rfl) (Or.inl ⟨by rfl, ?_⟩) hHeld ?_
  rotate_left
  · intro w hSw; go_simp; with_reducible rfl
  simp only [Act.put, List.setIfInBounds_toArray, List.set_cons_zero, List.set_cons_succ]
  refine take_at 2 22 (v := ?_) rfl rfl (by kernel_rfl) (by kernel_rfl) (by kernel_rfl) (Or.inl ⟨by rfl, ?_⟩) hHeld ?_
  rotate_left
  · intro w hSw; go_simp; with_reducible rfl
  simp only [Act.put, List.setIfInBounds_toArray, List.set_cons_zero, List.set_cons_succ]
  refine take_at 3 23 (v := ?_) rfl rfl (by kernel_rfl) (by kernel_rfl) (by kernel_rfl) (Or.inl ⟨by rfl, ?_⟩) hHeld ?_
  rotate_left
  · intro w hSw; obtain ⟨s1, s2⟩ := hSw; go_simp; with_reducible rfl
  simp only [Act.put, List.setIfInBounds_toArray, List.set_cons_zero, List.set_cons_succ]
  refine take_at 4 24 (v := ?_) rfl rfl (by kernel_rfl) (by kernel_rfl) (by kernel_rfl) (Or.inl ⟨by rfl, ?_⟩) hHeld ?_
  rotate_left
  · intro w hSw; go_simp; with_reducible rfl
  simp only [Act.put, List.setIfInBounds_toArray, List.set_cons_zero, List.set_cons_succ]
  refine take_at 5 25 (v := ?_) rfl rfl (by kernel_rfl) (by kernel_rfl) (by kernel_rfl) (Or.inl ⟨by rfl, ?_⟩) hHeld ?_
  rotate_left
  · intro w hSw; obtain ⟨s1, s2⟩ := hSw; go_simp; with_reducible rfl
  simp only [Act.put, List.setIfInBounds_toArray, List.set_cons_zero, List.set_cons_succ]
  have O4 := hide ((unhide O3).drew (unhide T0))
  generalize w2.drew = wd at *
  clear O3 cb0 cg2
  refine wpAnyH_ready (rs := [6, 10]) (by kernel_rfl) (by simp) ?_
  refine AllReadyH.cons rfl (fun K hK => ?_) (AllReadyH.cons rfl (fun K hK => ?_) AllReadyH.nil)
  · go_simp
    refine ((unhide O4).st.load M hn l).mono ?_
    rintro e w3 ⟨rfl, h1, h2⟩
    have OX := hide ((unhide O4).call (St' := SHas W m b St S A) h1 h2)
    rw [hle, unhide HLV]
    go_wp2_with fail
    clear hHeld
    have kgx := (unhide OX).at g6 (.cells #[.int .i64 k, .int .i64 v0, .int .i64 l] 41) (by simp)
    refine hK.out _ _ ⟨(unhide OX).st.pm, by rw [cell_of_block kgx]; rfl⟩ (fun hNew => ?_)
    have hHeld := hNew
    clear hK K hNew kgx
    clear h1 h2 O4
    refine take_at 7 19 (v := ?_) rfl rfl (by kernel_rfl) (by kernel_rfl) (by kernel_rfl) (Or.inl ⟨by rfl, ?_⟩) hHeld ?_
    rotate_left
    · intro w hSw; go_simp; with_reducible rfl
    simp only [Act.put, List.setIfInBounds_toArray, List.set_cons_zero, List.set_cons_succ]
    refine take_at 8 27 (v := ?_) rfl rfl (by kernel_rfl) (by kernel_rfl) (by kernel_rfl) (Or.inl ⟨by rfl, ?_⟩) hHeld ?_
    rotate_left
    · intro w hSw; go_simp; with_reducible rfl
    simp only [Act.put, List.setIfInBounds_toArray, List.set_cons_zero, List.set_cons_succ]
    refine take_at 9 28 (v := ?_) rfl rfl (by kernel_rfl) (by kernel_rfl) (by kernel_rfl) (Or.inl ⟨by rfl, ?_⟩) hHeld ?_
    rotate_left
    · intro w hSw; go_simp; with_reducible rfl
    simp only [Act.put, List.setIfInBounds_toArray, List.set_cons_zero, List.set_cons_succ]
    refine wpAnyH_ready (rs := [10]) (by kernel_rfl) (by simp) ?_
    refine AllReadyH.cons rfl (fun K hK => ?_) AllReadyH.nil
    have OY := hide ((unhide OX).alloc (unhide T0) (.cells #[.int .u64 0, .int .u64 0, .int .u64 0, .int .u64 0, .int .u64 0, .int .u64 0, .int .u64 0, .int .u64 0] 83))
    have HNE := hide (unhide OX).fresh
    go_wp2_with fail
    clear OX
    obtain ⟨g8, hg8⟩ : ∃ g8, g8 = w3.heap.size := ⟨_, rfl⟩
    rw [← hg8] at OY HNE ⊢
    have OX := OY
    generalize w3.alloc _ = w4 at *
    clear hHeld
    have kgx := (unhide OX).at g6 (.cells #[.int .i64 k, .int .i64 v0, .int .i64 l] 41) (by simp)
    refine hK.out _ _ ⟨(unhide OX).st.pm, by rw [cell_of_block kgx]; rfl⟩ (fun hNew => ?_)
    have hHeld := hNew
    clear hK K hNew kgx
    clear OX hg8
    refine wpAnyH_ready (rs := [11]) (by kernel_rfl) (by simp) ?_
    refine AllReadyH.cons rfl (fun K hK => ?_) AllReadyH.nil
    have KG := (unhide OY).at g8 (.cells #[.int .u64 0, .int .u64 0, .int .u64 0, .int .u64 0, .int .u64 0, .int .u64 0, .int .u64 0, .int .u64 0] 83) (by simp)
    refine (if_pos (by rfl)).mpr ?_
    refine wp_store_row 83 (.tmp 8) (.tmp 27) rfl g8 LV rfl rfl _ _ KG (unhide S8) (unhide S8') (unhide X8) ?_
    have OX := hide ((unhide OY).rowHd (unhide T0) (unhide HNE) LV)
    clear hHeld
    have kgx := (unhide OX).at g6 (.cells #[.int .i64 k, .int .i64 v0, .int .i64 l] 41) (by simp)
    refine hK.out _ _ ⟨(unhide OX).st.pm, by rw [cell_of_block kgx]; rfl⟩ (fun hNew => ?_)
    have hHeld := hNew
    clear hK K hNew kgx
    clear KG OY
    refine take_at 12 7 (v := ?_) rfl rfl (by kernel_rfl) (by kernel_rfl) (by kernel_rfl) (Or.inl ⟨by rfl, ?_⟩) hHeld ?_
    rotate_left
    · intro w hSw; go_simp; with_reducible rfl
    simp only [Act.put, List.setIfInBounds_toArray, List.set_cons_zero, List.set_cons_succ]
    refine wpAnyH_done (by kernel_rfl) ?_ _
    refine NoPanic.normal ?_
    clear hHeld
    generalize World.setRow _ g8 LV = w5 at *
    have K1 := hide ((unhide OX).at g4 (.cells ZO 88) (by simp))
    have K2 : Hid ((w5.setRow g4 ZO).heap[g4]? = some (.cells ZO 88 (0, 0))) := setRow_heap _ _ _ _ _ _ (unhide K1)
    go_wp2_with (first | (with_reducible refine wpList_build0 (by with_unfolding_all rfl) 88 (by with_unfolding_all rfl) ZO (unhide B0) ?_) | (with_reducible refine wpList_store_row (by with_unfolding_all rfl) 88 _ _ (by with_unfolding_all rfl) g4 ZO (by with_unfolding_all rfl) (by with_unfolding_all rfl) _ _ (unhide K1) (unhide S10) rfl (unhide X1) ?_))
    refine bodyPost_ret (v := .tuple #[.agg ZO, .int .i64 E]) (results_two Tryz.results42 _ _ g4 88 ZO (0, 0) _ _ rfl rfl (unhide K2) Tryz.underlying88 rfl (unhide S10)) rfl ?_
    rw [unhide HV]
    have OT := (unhide OX).row (unhide T0) g4 ZO 88 (0, 0) (by simp) ZO
    exact OT.done (unhide T0) _
  · have OY := hide ((unhide O4).alloc (unhide T0) (.cells #[.int .u64 0, .int .u64 0, .int .u64 0, .int .u64 0, .int .u64 0, .int .u64 0, .int .u64 0, .int .u64 0] 83))
    have HNE := hide (unhide O4).fresh
    go_wp2_with fail
    clear O4
    obtain ⟨g8, hg8⟩ : ∃ g8, g8 = wd.heap.size := ⟨_, rfl⟩
    rw [← hg8] at OY HNE ⊢
    have OX := OY
    generalize wd.alloc _ = w4 at *
    clear hHeld
    have kgx := (unhide OX).at g6 (.cells #[.int .i64 k, .int .i64 v0, .int .i64 l] 41) (by simp)
    refine hK.out _ _ ⟨(unhide OX).st.pm, by rw [cell_of_block kgx]; rfl⟩ (fun hNew => ?_)
    have hHeld := hNew
    clear hK K hNew kgx
    clear OX hg8
    refine wpAnyH_ready (rs := [6]) (by kernel_rfl) (by simp) ?_
    refine AllReadyH.cons rfl (fun K hK => ?_) AllReadyH.nil
    go_simp
    refine ((unhide OY).st.load M hn l).mono ?_
    rintro e w3 ⟨rfl, h1, h2⟩
    have OX := hide ((unhide OY).call (St' := SHas W m b St S A) h1 h2)
    rw [hle, unhide HLV]
    go_wp2_with fail
    clear hHeld
    have kgx := (unhide OX).at g6 (.cells #[.int .i64 k, .int .i64 v0, .int .i64 l] 41) (by simp)
    refine hK.out _ _ ⟨(unhide OX).st.pm, by rw [cell_of_block kgx]; rfl⟩ (fun hNew => ?_)
    have hHeld := hNew
    clear hK K hNew kgx
    clear h1 h2 OY
    have OY := OX
    clear OX
    refine take_at 7 19 (v := ?_) rfl rfl (by kernel_rfl) (by kernel_rfl) (by kernel_rfl) (Or.inl ⟨by rfl, ?_⟩) hHeld ?_
    rotate_left
    · intro w hSw; go_simp; with_reducible rfl
    simp only [Act.put, List.setIfInBounds_toArray, List.set_cons_zero, List.set_cons_succ]
    refine take_at 8 27 (v := ?_) rfl rfl (by kernel_rfl) (by kernel_rfl) (by kernel_rfl) (Or.inl ⟨by rfl, ?_⟩) hHeld ?_
    rotate_left
    · intro w hSw; go_simp; with_reducible rfl
    simp only [Act.put, List.setIfInBounds_toArray, List.set_cons_zero, List.set_cons_succ]
    refine take_at 9 28 (v := ?_) rfl rfl (by kernel_rfl) (by kernel_rfl) (by kernel_rfl) (Or.inl ⟨by rfl, ?_⟩) hHeld ?_
    rotate_left
    · intro w hSw; go_simp; with_reducible rfl
    simp only [Act.put, List.setIfInBounds_toArray, List.set_cons_zero, List.set_cons_succ]
    refine wpAnyH_ready (rs := [11]) (by kernel_rfl) (by simp) ?_
    refine AllReadyH.cons rfl (fun K hK => ?_) AllReadyH.nil
    have KG := (unhide OY).at g8 (.cells #[.int .u64 0, .int .u64 0, .int .u64 0, .int .u64 0, .int .u64 0, .int .u64 0, .int .u64 0, .int .u64 0] 83) (by simp)
    refine (if_pos (by rfl)).mpr ?_
    refine wp_store_row 83 (.tmp 8) (.tmp 27) rfl g8 LV rfl rfl _ _ KG (unhide S8) (unhide S8') (unhide X8) ?_
    have OX := hide ((unhide OY).rowHd (unhide T0) (unhide HNE) LV)
    clear hHeld
    have kgx := (unhide OX).at g6 (.cells #[.int .i64 k, .int .i64 v0, .int .i64 l] 41) (by simp)
    refine hK.out _ _ ⟨(unhide OX).st.pm, by rw [cell_of_block kgx]; rfl⟩ (fun hNew => ?_)
    have hHeld := hNew
    clear hK K hNew kgx
    clear KG OY
    refine take_at 12 7 (v := ?_) rfl rfl (by kernel_rfl) (by kernel_rfl) (by kernel_rfl) (Or.inl ⟨by rfl, ?_⟩) hHeld ?_
    rotate_left
    · intro w hSw; go_simp; with_reducible rfl
    simp only [Act.put, List.setIfInBounds_toArray, List.set_cons_zero, List.set_cons_succ]
    refine wpAnyH_done (by kernel_rfl) ?_ _
    refine NoPanic.normal ?_
    clear hHeld
    generalize World.setRow _ g8 LV = w5 at *
    have K1 := hide ((unhide OX).at g4 (.cells ZO 88) (by simp))
    have K2 : Hid ((w5.setRow g4 ZO).heap[g4]? = some (.cells ZO 88 (0, 0))) := setRow_heap _ _ _ _ _ _ (unhide K1)
    go_wp2_with (first | (with_reducible refine wpList_build0 (by with_unfolding_all rfl) 88 (by with_unfolding_all rfl) ZO (unhide B0) ?_) | (with_reducible refine wpList_store_row (by with_unfolding_all rfl) 88 _ _ (by with_unfolding_all rfl) g4 ZO (by with_unfolding_all rfl) (by with_unfolding_all rfl) _ _ (unhide K1) (unhide S10) rfl (unhide X1) ?_))
    refine bodyPost_ret (v := .tuple #[.agg ZO, .int .i64 E]) (results_two Tryz.results42 _ _ g4 88 ZO (0, 0) _ _ rfl rfl (unhide K2) Tryz.underlying88 rfl (unhide S10)) rfl ?_
    rw [unhide HV]
    have OT := (unhide OX).row (unhide T0) g4 ZO 88 (0, 0) (by simp) ZO
    exact OT.done (unhide T0) _
set_option maxHeartbeats 2000000 in
theorem get_lit {W w : World} {m b : Nat} {St : Mm → World → (Nat → Prop) → Prop} {S : Sto} {A : Mm} {G : Nat → Prop} (M : MemL W m St) (h : SHas W m b St S A w G) (hn : A.n ≤ 1024) (z : Int) (hf : S.findE z = 0) (hle : A.loadE (S.line z) = 0) :
    Calls Tryz.prog 42 #[.pointer (some ⟨b, 0, none⟩), .int .i64 z] w (Done (SHas W m b St S A) w G (getT S A z)) := by
  have T0 := hide (SHas.stay M b S A)
  have O0 := hide ((Held.start (unhide T0) h).alloc (unhide T0) (.cells (obV 0 0 fun _ => 0) 88))
  have hz := findE_ok hf
  obtain ⟨i, rfl⟩ : ∃ i : Nat, z = (i : Int) := ⟨z.toNat, by omega⟩
  obtain ⟨k, v0, l, hx⟩ : ∃ k v0 l, S.w i = ⟨k, v0, l⟩ := ⟨_, _, _, rfl⟩
  have eL : S.line (i : Int) = l := by unfold Sto.line; rw [Int.toNat_natCast, hx]
  have CF := hide (find_any (unhide O0).st.rep (i : Int))
  have HA : Hid (foundV S (i : Int) = .tuple #[.agg #[.int .i64 k, .int .i64 v0, .int .i64 l], .int .i64 0]) := by
    show foundV S (i : Int) = _
    unfold foundV Sto.at; rw [if_pos hf, hf, Int.toNat_natCast, hx]; rfl
  rw [unhide HA] at CF
  rw [eL] at hle
  have eE : S.getE A (i : Int) = A.loadE l := by unfold Sto.getE; rw [if_pos hf, eL]
  rw [hle] at eE
  have HV : Hid (getT S A (i : Int) = .tuple #[.agg (obV k v0 (A.hasZ l)), .int .i64 0]) := by
    show getT S A (i : Int) = _
    unfold getT Sto.getV; rw [eE, if_pos rfl, eL, Int.toNat_natCast, hx]
  have SV := hide (s10_ob k v0 (A.hasZ l))
  have XV := hide (obV_one k v0 (A.hasZ l))
  have SZ : Hid ((obV 0 0 fun _ => 0).size = (obV k v0 (A.hasZ l)).size) := by show _ = _; rw [obV_size, obV_size]
  have BO := hide (build_ob k v0 (A.hasZ l))
  generalize obV k v0 (A.hasZ l) = VO at *
  have S10 := hide (s10_ob 0 0 fun _ => 0)
  have Z0 := hide zero_ob
  have B0 := hide build_ob0
  have X1 := hide (obV_one 0 0 fun _ => 0)
  generalize (obV 0 0 fun _ => 0) = ZO at *
  have S8 := hide (s8_ln (A.hasZ l))
  have X8 := hide (lnV_one (A.hasZ l))
  have S8' : Hid ((#[.int .u64 0, .int .u64 0, .int .u64 0, .int .u64 0, .int .u64 0, .int .u64 0, .int .u64 0, .int .u64 0] : Array Value).size = (lnV (A.hasZ l)).size) := by show _ = _; rw [lnV_size]; rfl
  obtain ⟨LV, hLV⟩ : ∃ LV, LV = lnV (A.hasZ l) := ⟨_, rfl⟩
  have HLV := hide hLV.symm
  rw [← hLV] at S8 X8 S8'
  rw [← hLV] at BO
  clear h hf hz HA hx eL eE hLV
  go_enter Tryz.func42, Tryz.ntmps42
  go_wp2_with (with_reducible refine wpList_allocZ (by with_unfolding_all rfl) 88 (by with_unfolding_all rfl) ZO (unhide Z0) ?_)
  refine (unhide CF).mono ?_
  rintro e w1 ⟨rfl, hb⟩
  have O3 := hide (((unhide O0).below (unhide T0) hb).alloc (unhide T0) (.cells #[.int .i64 k, .int .i64 v0, .int .i64 l] 41))
  obtain ⟨g4, hg4⟩ : ∃ g4, g4 = w.heap.size := ⟨_, rfl⟩
  obtain ⟨g6, hg6⟩ : ∃ g6, g6 = w1.heap.size := ⟨_, rfl⟩
  rw [← hg4, ← hg6] at O3
  rw [← hg4]
  clear hb CF O0 hg4
  go_upto_region 4 with fail
  try rw [← hg6]
  clear hg6
  generalize w1.alloc (.cells #[.int .i64 k, .int .i64 v0, .int .i64 l] 41) = w2 at *
  have cg2 : w2.cell? ⟨g6, 2, none⟩ = some (.int .i64 l) := by rw [cell_of_block ((unhide O3).at g6 (.cells #[.int .i64 k, .int .i64 v0, .int .i64 l] 41) (by simp))]; rfl
  have cb0 := (unhide O3).st.pm
  refine wp_region_noPanic ?_
  refine wp_region_held_drew (S := fun w' => w'.cell? ⟨b, 0, none⟩ = some (.pointer (some ⟨m, 0, none⟩)) ∧ w'.cell? ⟨g6, 2, none⟩ = some (.int .i64 l)) (by kernel_rfl) ⟨cb0, cg2⟩ (fun hHeld => ?_)
  refine take_at 0 20 (v := ?_) rfl rfl (by kernel_rfl) (by kernel_rfl) (by kernel_rfl) (Or.inl ⟨by rfl, ?_⟩) hHeld ?_
  rotate_left
  · intro w hSw; go_simp; with_reducible rfl
  simp only [Act.put, List.setIfInBounds_toArray, List.set_cons_zero, List.set_cons_succ]
  refine take_at 1 21 (v := ?_) rfl rfl (by kernel_rfl) (by kernel_rfl) (by kernel_rfl) (Or.inl ⟨by rfl, ?_⟩) hHeld ?_
  rotate_left
  · intro w hSw; go_simp; with_reducible rfl
  simp only [Act.put, List.setIfInBounds_toArray, List.set_cons_zero, List.set_cons_succ]
  refine take_at 2 22 (v := ?_) rfl rfl (by kernel_rfl) (by kernel_rfl) (by kernel_rfl) (Or.inl ⟨by rfl, ?_⟩) hHeld ?_
  rotate_left
  · intro w hSw; go_simp; with_reducible rfl
  simp only [Act.put, List.setIfInBounds_toArray, List.set_cons_zero, List.set_cons_succ]
  refine take_at 3 23 (v := ?_) rfl rfl (by kernel_rfl) (by kernel_rfl) (by kernel_rfl) (Or.inl ⟨by rfl, ?_⟩) hHeld ?_
  rotate_left
  · intro w hSw; obtain ⟨s1, s2⟩ := hSw; go_simp; with_reducible rfl
  simp only [Act.put, List.setIfInBounds_toArray, List.set_cons_zero, List.set_cons_succ]
  refine take_at 4 24 (v := ?_) rfl rfl (by kernel_rfl) (by kernel_rfl) (by kernel_rfl) (Or.inl ⟨by rfl, ?_⟩) hHeld ?_
  rotate_left
  · intro w hSw; go_simp; with_reducible rfl
  simp only [Act.put, List.setIfInBounds_toArray, List.set_cons_zero, List.set_cons_succ]
  refine take_at 5 25 (v := ?_) rfl rfl (by kernel_rfl) (by kernel_rfl) (by kernel_rfl) (Or.inl ⟨by rfl, ?_⟩) hHeld ?_
  rotate_left
  · intro w hSw; obtain ⟨s1, s2⟩ := hSw; go_simp; with_reducible rfl
  simp only [Act.put, List.setIfInBounds_toArray, List.set_cons_zero, List.set_cons_succ]
  have O4 := hide ((unhide O3).drew (unhide T0))
  generalize w2.drew = wd at *
  clear O3 cb0 cg2
  refine wpAnyH_ready (rs := [6, 10]) (by kernel_rfl) (by simp) ?_
  refine AllReadyH.cons rfl (fun K hK => ?_) (AllReadyH.cons rfl (fun K hK => ?_) AllReadyH.nil)
  · go_simp
    refine ((unhide O4).st.load M hn l).mono ?_
    rintro e w3 ⟨rfl, h1, h2⟩
    have OX := hide ((unhide O4).call (St' := SHas W m b St S A) h1 h2)
    rw [hle, unhide HLV]
    go_wp2_with fail
    clear hHeld
    have kgx := (unhide OX).at g6 (.cells #[.int .i64 k, .int .i64 v0, .int .i64 l] 41) (by simp)
    refine hK.out _ _ ⟨(unhide OX).st.pm, by rw [cell_of_block kgx]; rfl⟩ (fun hNew => ?_)
    have hHeld := hNew
    clear hK K hNew kgx
    clear h1 h2 O4
    refine take_at 7 19 (v := ?_) rfl rfl (by kernel_rfl) (by kernel_rfl) (by kernel_rfl) (Or.inl ⟨by rfl, ?_⟩) hHeld ?_
    rotate_left
    · intro w hSw; go_simp; with_reducible rfl
    simp only [Act.put, List.setIfInBounds_toArray, List.set_cons_zero, List.set_cons_succ]
    refine take_at 8 27 (v := ?_) rfl rfl (by kernel_rfl) (by kernel_rfl) (by kernel_rfl) (Or.inl ⟨by rfl, ?_⟩) hHeld ?_
    rotate_left
    · intro w hSw; go_simp; with_reducible rfl
    simp only [Act.put, List.setIfInBounds_toArray, List.set_cons_zero, List.set_cons_succ]
    refine take_at 9 28 (v := ?_) rfl rfl (by kernel_rfl) (by kernel_rfl) (by kernel_rfl) (Or.inl ⟨by rfl, ?_⟩) hHeld ?_
    rotate_left
    · intro w hSw; go_simp; with_reducible rfl
    simp only [Act.put, List.setIfInBounds_toArray, List.set_cons_zero, List.set_cons_succ]
    refine wpAnyH_ready (rs := [10]) (by kernel_rfl) (by simp) ?_
    refine AllReadyH.cons rfl (fun K hK => ?_) AllReadyH.nil
    have OY := hide ((unhide OX).alloc (unhide T0) (.cells #[.int .u64 0, .int .u64 0, .int .u64 0, .int .u64 0, .int .u64 0, .int .u64 0, .int .u64 0, .int .u64 0] 83))
    have HNE := hide (unhide OX).fresh
    go_wp2_with fail
    clear OX
    obtain ⟨g8, hg8⟩ : ∃ g8, g8 = w3.heap.size := ⟨_, rfl⟩
    rw [← hg8] at OY HNE ⊢
    have OX := OY
    generalize w3.alloc _ = w4 at *
    clear hHeld
    have kgx := (unhide OX).at g6 (.cells #[.int .i64 k, .int .i64 v0, .int .i64 l] 41) (by simp)
    refine hK.out _ _ ⟨(unhide OX).st.pm, by rw [cell_of_block kgx]; rfl⟩ (fun hNew => ?_)
    have hHeld := hNew
    clear hK K hNew kgx
    clear OX hg8
    refine wpAnyH_ready (rs := [11]) (by kernel_rfl) (by simp) ?_
    refine AllReadyH.cons rfl (fun K hK => ?_) AllReadyH.nil
    have KG := (unhide OY).at g8 (.cells #[.int .u64 0, .int .u64 0, .int .u64 0, .int .u64 0, .int .u64 0, .int .u64 0, .int .u64 0, .int .u64 0] 83) (by simp)
    refine (if_pos (by rfl)).mpr ?_
    refine wp_store_row 83 (.tmp 8) (.tmp 27) rfl g8 LV rfl rfl _ _ KG (unhide S8) (unhide S8') (unhide X8) ?_
    have OX := hide ((unhide OY).rowHd (unhide T0) (unhide HNE) LV)
    clear hHeld
    have kgx := (unhide OX).at g6 (.cells #[.int .i64 k, .int .i64 v0, .int .i64 l] 41) (by simp)
    refine hK.out _ _ ⟨(unhide OX).st.pm, by rw [cell_of_block kgx]; rfl⟩ (fun hNew => ?_)
    have hHeld := hNew
    clear hK K hNew kgx
    clear KG OY
    refine take_at 12 7 (v := ?_) rfl rfl (by kernel_rfl) (by kernel_rfl) (by kernel_rfl) (Or.inl ⟨by rfl, ?_⟩) hHeld ?_
    rotate_left
    · intro w hSw; go_simp; with_reducible rfl
    simp only [Act.put, List.setIfInBounds_toArray, List.set_cons_zero, List.set_cons_succ]
    refine wpAnyH_done (by kernel_rfl) ?_ _
    refine NoPanic.normal ?_
    clear hHeld
    generalize World.setRow _ g8 LV = w5 at *
    have K1 := hide ((unhide OX).at g4 (.cells ZO 88) (by simp))
    have K2 : Hid ((w5.setRow g4 VO).heap[g4]? = some (.cells VO 88 (0, 0))) := setRow_heap _ _ _ _ _ _ (unhide K1)
    have K8 := hide ((unhide OX).at g8 (.cells LV 83) (by simp))
    have kg := (unhide OX).at g6 (.cells #[.int .i64 k, .int .i64 v0, .int .i64 l] 41) (by simp)
    have cg0 : w5.cell? ⟨g6, 0, none⟩ = some (.int .i64 k) := by rw [cell_of_block kg]; rfl
    have cg1 : w5.cell? ⟨g6, 1, none⟩ = some (.int .i64 v0) := by rw [cell_of_block kg]; rfl
    clear kg
    go_wp2_with (first | (with_reducible refine wpList_load_row (by with_unfolding_all rfl) 83 _ (by with_unfolding_all rfl) g8 (by with_unfolding_all rfl) _ _ _ _ (unhide K8) Tryz.underlying83 (by with_unfolding_all rfl) (unhide S8) ?_) | (with_reducible refine wpList_store_row (by with_unfolding_all rfl) 88 _ _ (by with_unfolding_all rfl) g4 VO (by with_unfolding_all rfl) (by with_unfolding_all rfl) _ _ (unhide K1) (unhide SV) (unhide SZ) (unhide XV) ?_) | (with_reducible refine wpList_buildO (by with_unfolding_all rfl) _ _ _ (by with_unfolding_all rfl) (.int .i64 k) (.int .i64 v0) (.agg LV) (by with_unfolding_all rfl) (by with_unfolding_all rfl) (by with_unfolding_all rfl) VO (unhide BO) ?_))
    refine bodyPost_ret (v := .tuple #[.agg VO, .int .i64 0]) (results_two Tryz.results42 _ _ g4 88 VO (0, 0) _ _ rfl rfl (unhide K2) Tryz.underlying88 rfl (unhide SV)) rfl ?_
    rw [unhide HV]
    have OT := (unhide OX).row (unhide T0) g4 ZO 88 (0, 0) (by simp) VO
    exact OT.done (unhide T0) _
  · have OY := hide ((unhide O4).alloc (unhide T0) (.cells #[.int .u64 0, .int .u64 0, .int .u64 0, .int .u64 0, .int .u64 0, .int .u64 0, .int .u64 0, .int .u64 0] 83))
    have HNE := hide (unhide O4).fresh
    go_wp2_with fail
    clear O4
    obtain ⟨g8, hg8⟩ : ∃ g8, g8 = wd.heap.size := ⟨_, rfl⟩
    rw [← hg8] at OY HNE ⊢
    have OX := OY
    generalize wd.alloc _ = w4 at *
    clear hHeld
    have kgx := (unhide OX).at g6 (.cells #[.int .i64 k, .int .i64 v0, .int .i64 l] 41) (by simp)
    refine hK.out _ _ ⟨(unhide OX).st.pm, by rw [cell_of_block kgx]; rfl⟩ (fun hNew => ?_)
    have hHeld := hNew
    clear hK K hNew kgx
    clear OX hg8
    refine wpAnyH_ready (rs := [6]) (by kernel_rfl) (by simp) ?_
    refine AllReadyH.cons rfl (fun K hK => ?_) AllReadyH.nil
    go_simp
    refine ((unhide OY).st.load M hn l).mono ?_
    rintro e w3 ⟨rfl, h1, h2⟩
    have OX := hide ((unhide OY).call (St' := SHas W m b St S A) h1 h2)
    rw [hle, unhide HLV]
    go_wp2_with fail
    clear hHeld
    have kgx := (unhide OX).at g6 (.cells #[.int .i64 k, .int .i64 v0, .int .i64 l] 41) (by simp)
    refine hK.out _ _ ⟨(unhide OX).st.pm, by rw [cell_of_block kgx]; rfl⟩ (fun hNew => ?_)
    have hHeld := hNew
    clear hK K hNew kgx
    clear h1 h2 OY
    have OY := OX
    clear OX
    refine take_at 7 19 (v := ?_) rfl rfl (by kernel_rfl) (by kernel_rfl) (by kernel_rfl) (Or.inl ⟨by rfl, ?_⟩) hHeld ?_
    rotate_left
    · intro w hSw; go_simp; with_reducible rfl
    simp only [Act.put, List.setIfInBounds_toArray, List.set_cons_zero, List.set_cons_succ]
    refine take_at 8 27 (v := ?_) rfl rfl (by kernel_rfl) (by kernel_rfl) (by kernel_rfl) (Or.inl ⟨by rfl, ?_⟩) hHeld ?_
    rotate_left
    · intro w hSw; go_simp; with_reducible rfl
    simp only [Act.put, List.setIfInBounds_toArray, List.set_cons_zero, List.set_cons_succ]
    refine take_at 9 28 (v := ?_) rfl rfl (by kernel_rfl) (by kernel_rfl) (by kernel_rfl) (Or.inl ⟨by rfl, ?_⟩) hHeld ?_
    rotate_left
    · intro w hSw; go_simp; with_reducible rfl
    simp only [Act.put, List.setIfInBounds_toArray, List.set_cons_zero, List.set_cons_succ]
    refine wpAnyH_ready (rs := [11]) (by kernel_rfl) (by simp) ?_
    refine AllReadyH.cons rfl (fun K hK => ?_) AllReadyH.nil
    have KG := (unhide OY).at g8 (.cells #[.int .u64 0, .int .u64 0, .int .u64 0, .int .u64 0, .int .u64 0, .int .u64 0, .int .u64 0, .int .u64 0] 83) (by simp)
    refine (if_pos (by rfl)).mpr ?_
    refine wp_store_row 83 (.tmp 8) (.tmp 27) rfl g8 LV rfl rfl _ _ KG (unhide S8) (unhide S8') (unhide X8) ?_
    have OX := hide ((unhide OY).rowHd (unhide T0) (unhide HNE) LV)
    clear hHeld
    have kgx := (unhide OX).at g6 (.cells #[.int .i64 k, .int .i64 v0, .int .i64 l] 41) (by simp)
    refine hK.out _ _ ⟨(unhide OX).st.pm, by rw [cell_of_block kgx]; rfl⟩ (fun hNew => ?_)
    have hHeld := hNew
    clear hK K hNew kgx
    clear KG OY
    refine take_at 12 7 (v := ?_) rfl rfl (by kernel_rfl) (by kernel_rfl) (by kernel_rfl) (Or.inl ⟨by rfl, ?_⟩) hHeld ?_
    rotate_left
    · intro w hSw; go_simp; with_reducible rfl
    simp only [Act.put, List.setIfInBounds_toArray, List.set_cons_zero, List.set_cons_succ]
    refine wpAnyH_done (by kernel_rfl) ?_ _
    refine NoPanic.normal ?_
    clear hHeld
    generalize World.setRow _ g8 LV = w5 at *
    have K1 := hide ((unhide OX).at g4 (.cells ZO 88) (by simp))
    have K2 : Hid ((w5.setRow g4 VO).heap[g4]? = some (.cells VO 88 (0, 0))) := setRow_heap _ _ _ _ _ _ (unhide K1)
    have K8 := hide ((unhide OX).at g8 (.cells LV 83) (by simp))
    have kg := (unhide OX).at g6 (.cells #[.int .i64 k, .int .i64 v0, .int .i64 l] 41) (by simp)
    have cg0 : w5.cell? ⟨g6, 0, none⟩ = some (.int .i64 k) := by rw [cell_of_block kg]; rfl
    have cg1 : w5.cell? ⟨g6, 1, none⟩ = some (.int .i64 v0) := by rw [cell_of_block kg]; rfl
    clear kg
    go_wp2_with (first | (with_reducible refine wpList_load_row (by with_unfolding_all rfl) 83 _ (by with_unfolding_all rfl) g8 (by with_unfolding_all rfl) _ _ _ _ (unhide K8) Tryz.underlying83 (by with_unfolding_all rfl) (unhide S8) ?_) | (with_reducible refine wpList_store_row (by with_unfolding_all rfl) 88 _ _ (by with_unfolding_all rfl) g4 VO (by with_unfolding_all rfl) (by with_unfolding_all rfl) _ _ (unhide K1) (unhide SV) (unhide SZ) (unhide XV) ?_) | (with_reducible refine wpList_buildO (by with_unfolding_all rfl) _ _ _ (by with_unfolding_all rfl) (.int .i64 k) (.int .i64 v0) (.agg LV) (by with_unfolding_all rfl) (by with_unfolding_all rfl) (by with_unfolding_all rfl) VO (unhide BO) ?_))
    refine bodyPost_ret (v := .tuple #[.agg VO, .int .i64 0]) (results_two Tryz.results42 _ _ g4 88 VO (0, 0) _ _ rfl rfl (unhide K2) Tryz.underlying88 rfl (unhide SV)) rfl ?_
    rw [unhide HV]
    have OT := (unhide OX).row (unhide T0) g4 ZO 88 (0, 0) (by simp) VO
    exact OT.done (unhide T0) _

theorem get_any {W w : World} {m b : Nat} {St : Mm → World → (Nat → Prop) → Prop} {S : Sto} {A : Mm} {G : Nat → Prop} (M : MemL W m St) (h : SHas W m b St S A w G) (hn : A.n ≤ 1024) (z : Int) :
    Calls Tryz.prog 42 #[.pointer (some ⟨b, 0, none⟩), .int .i64 z] w (Done (SHas W m b St S A) w G (getT S A z)) := by
  by_cases hf : S.findE z = 0
  · by_cases hle : A.loadE (S.line z) = 0
    · exact get_lit M h hn z hf hle
    · exact get_dark M h hn z hf hle
  · exact get_none M h z hf

end Go.Proofs.YtiafhcgaikapcaaGreat
