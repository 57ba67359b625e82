
/-
  The document's examples (steadfastlaw10.shown).
-/
import Derived.Test.YtjmgmbigbkllgaaOOf
import Derived.Test.YtjmgmbigbkllgaaOSet
import Derived.Test.YtjmgmbigbkllgaaOMake
import Derived.Test.YtjmgmbigbkllgaaOEnd
import Derived.Test.YtjmgmbigbkllgaaOGet
import Derived.Test.YtjmgmbigbkllgaaOLaw
import Derived.Test.YtjmgmbigbkllgaaOOk
namespace Go.Proofs.Ytjmgmbigbkllgaa
open Go.ChangeShapes Go.WideShapes Go.ChangeAt Go.RowKit Go.Joins
set_option maxRecDepth 100000
set_option linter.unusedVariables false
set_option linter.unusedSimpArgs false

def oA0 : Mm := Mm.new 80 fun _ _ => 0
def ot0 : Nat → En := fun i => if i = 0 then ⟨1, 0, 20⟩ else tblF 0 i
def oS0 : Sto := ofS (Fr.new 10 80) ot0 dirF
def oS1 : Sto := oS0.setS oA0 0 3 7
def oA1 : Mm := oS0.setM oA0 0 3 7
def oS2 : Sto := oS1.setS oA1 0 4 8
def oA2 : Mm := oS1.setM oA1 0 4 8
def oL : Nat → Int := fun j => if j = 3 then 7 else if j = 4 then 8 else 0
theorem of_0 : ofB (Fr.new 10 80) ot0 dirF = true := by decide +kernel
theorem set_1 : oS0.setE oA0 0 3 7 = 0 := by decide +kernel
theorem set_2 : oS1.setE oA1 0 4 8 = 0 := by decide +kernel
theorem line_1 : oS1.w 0 = ⟨1, 0, 18⟩ := by decide +kernel
theorem line_2 : oS2.w 0 = ⟨1, 0, 18⟩ := by decide +kernel
theorem get_2 : oS2.getE oA2 0 = 0 := by decide +kernel
theorem has_2 : ∀ j, j < 8 → oA2.hasZ 18 j = oL j := by decide +kernel
theorem make_2 : oS2.makeE oA2 3 = 1 ∧ oS2.makeI oA2 3 = 0 ∧ oS2.nextE 3 = 1 := by decide +kernel
theorem next_2 : oS2.nextE 1 = 0 ∧ oS2.nextI 1 = 1 ∧ oS2.nextV 1 = 0 := by decide +kernel
theorem tblF_v24 (n : Nat) : ∀ i, i < 49 → v24 (tblF n i).v := fun i hi => by
  unfold tblF
  split
  · exact ⟨by show (0 : Int) ≤ (i : Int); omega, by show (i : Int) ≤ 16777215; omega⟩
  · show v24 0; exact ⟨by decide, by decide⟩
theorem tabV_cell (f : Nat → En) (j : Nat) (h : j < 147) : (tabV f)[j]? = some (.int .i64 (fl3 f j)) := by
  have := congrArg (fun l => l[j]?) (tabV_list f)
  simp only [Array.getElem?_toList] at this
  rw [this, List.getElem?_map, List.getElem?_range h]; rfl
theorem obV_cell (k v : Int) (f : Nat → Int) (j : Nat) (h : j < 8) : (obV k v f)[2 + j]? = some (.int .u64 (f j)) := by
  unfold obV
  rw [Array.getElem?_append]
  rw [if_neg (by simp)]
  have : 2 + j - #[Value.int .i64 k, Value.int .i64 v].size = j := by simp
  rw [this]; exact lnV_get f j h
theorem ot0_v24 : ∀ i, i < 49 → v24 (ot0 i).v := fun i hi => by
  unfold ot0
  split
  · show v24 0; exact ⟨by decide, by decide⟩
  · exact tblF_v24 0 i hi
theorem oS0_ok : oS0.ok := ofS_ok (new_ok (by decide) (by decide)) ot0_v24 _
theorem oS1_ok : oS1.ok := setS_ok oS0_ok _ _ _ _
theorem oS2_ok : oS2.ok := setS_ok oS1_ok _ _ _ _
theorem oA0_ok : oA0.ok 0 := new0_ok 80 (by decide) (by decide)
theorem oA1_ok : oA1.ok 8 := setM_ok oA0_ok _ _ _ ⟨by decide, by decide⟩
theorem oA2_ok : oA2.ok 16 := setM_ok oA1_ok _ _ _ ⟨by decide, by decide⟩
theorem make_S2 : oS2.makeS oA2 3 = oS2 := by unfold Sto.makeS; rw [if_neg (by rw [make_2.2.2]; decide)]
theorem make_M2 : oS2.makeM oA2 3 = oA2 := by unfold Sto.makeM; rw [if_neg (by rw [make_2.2.2]; decide)]
theorem built_oL : Try.prog.built 56 [(3, .int .u64 7), (4, .int .u64 8)] = some (lnV oL) := by kernel_rfl
theorem get_V2 : oS2.getV oA2 0 = obV 1 0 oL := by
  have hl : oS2.line 0 = 18 := by decide +kernel
  unfold Sto.getV
  rw [if_pos get_2, hl, show oS2.w (0 : Int).toNat = ⟨1, 0, 18⟩ from line_2]
  unfold obV
  rw [show lnV (oA2.hasZ 18) = lnV oL from tab_ext fun j hj => by rw [has_2 j hj]]

theorem wpList_load_mid_w {P : Program} {ops : Array Oper} {rest : List Oper} {op : Oper} {a : Act} {w : World} {Q : Exit → Act → World → Prop} (hw : Region.wanted op (yielded ops a.tmps) = true) (ty : TypeId) (x : Operand) (ho : op.op = .load ty x)
    (b o : Nat) (hx : a.eval x = .pointer (some ⟨b, o, none⟩)) (cs : List Value) (d : TypeDesc) (hc : w.rangeAt b o cs) (hu : P.underlying ty = some d) (hd : d.isRow = true) (hi : (P.info? ty).map (·.size) = some cs.length)
    (h : wpList P ops Q rest (a.put op.dst (.agg cs.toArray)) w) : wpList P ops Q (op :: rest) a w :=
  wpList_step fun K hK => by
    rw [if_pos hw]
    exact wp_load_mid ty x ho b o hx cs d hc hu hd hi (hK _ _ h)
theorem wpList_build34 {ops : Array Oper} {rest : List Oper} {o : Oper} {a : Act} {w : World} {Q : Exit → Act → World → Prop} (hw : Region.wanted o (yielded ops a.tmps) = true) (x x' : Operand) (ho : o.op = .build 56 #[(3, x), (4, x')]) (u u' : Value) (hx : a.eval x = u) (hx' : a.eval x' = u') (cs : Array Value)
    (hb : Try.prog.built 56 [(3, u), (4, u')] = some cs) (h : wpList Try.prog ops Q rest (a.put o.dst (.agg cs)) w) : wpList Try.prog ops Q (o :: rest) a w :=
  wpList_step fun K hK => by
    rw [if_pos hw]
    have h2 := run_build (P := Try.prog) w 56 #[(3, u), (4, u')] cs hb
    unfold Oper.wp execOp
    simp only [ho, Sem.run_bind]
    rw [show (#[((3 : Nat), x), (4, x')].map fun p => (p.1, a.eval p.2)) = #[(3, u), (4, u')] by simp [hx, hx'], h2]
    exact hK _ _ h

set_option maxHeartbeats 8000000 in
theorem oshown_any (W : World) : Calls Try.prog 8 #[] W fun e w' => e = .returned (.bool true) ∧ Keeps (fun _ => False) W w' := by
  go_enter Try.func8, Try.ntmps8
  go_wp2_with fail
  refine (new_any W 80 (by decide) (by decide)).mono ?_
  intro e w1 hm
  obtain ⟨m, rfl, h0, -⟩ := made_has W (Keeps.refl _ _) hm (fun _ => False) (fun _ h => h.elim)
  have M := Has.memL W m
  have H0 : Hid (Has W w1 (fun _ => False) m oA0) := h0
  have T0 : Hid (Stay W (fun w G => Has W w G m oA0)) := M.stay oA0
  have O0 := hide ((Held.start (unhide T0) (unhide H0)).alloc (unhide T0) (.cells (tabV (tblF 0)) 24))
  clear hm h0 H0
  have B9 := hide built_tab9
  have s9 := s147_tab9 (tblF 0)
  have X9 := hide (tabV_one (tblF 0))
  obtain ⟨ZV, hZV⟩ : ∃ ZV, ZV = tabV (tblF 0) := ⟨_, rfl⟩
  rw [← hZV] at B9 s9 X9 O0
  have HZV := hide hZV
  clear hZV
  go_upto_region 5 with (first | (with_reducible refine wpList_allocZ (by with_unfolding_all rfl) 24 (by with_unfolding_all rfl) ZV (by rw [unhide HZV]; exact zero_tab9) ?_) | (with_reducible refine wpList_build0 (by with_unfolding_all rfl) 24 (by with_unfolding_all rfl) ZV (unhide B9) ?_) | (with_reducible refine wpList_store_row (by with_unfolding_all rfl) 24 _ _ (by with_unfolding_all rfl) w1.heap.size ZV (by with_unfolding_all rfl) (by with_unfolding_all rfl) 24 ZV (heap_new w1 _) s9 rfl (unhide X9) ?_; rw [setRow_alloc]))
  obtain ⟨g3, hg3⟩ : ∃ g3, g3 = w1.heap.size := ⟨_, rfl⟩
  rw [← hg3] at O0 ⊢
  clear hg3
  generalize w1.alloc (.cells ZV 24) = w2 at *
  rw [unhide HZV] at O0
  have kg := (unhide O0).at g3 (.cells (tabV (tblF 0)) 24) (by simp)
  have TB : Hid (w2.there g3 0 3) := there_en (rowE 49 (tblF 0)) kg 0 (by rw [rowE_len]; decide)
  have BP : (w2.setCells g3 0 (ev ⟨1, 0, 20⟩).toList).heap[g3]? = some (.cells (tabV ot0) 24 (0, 0)) := by
    have := block_put3 (rowE 49 (tblF 0)) kg 0 ⟨1, 0, 20⟩
    rw [put3_row 49 _ 0 _ (by decide)] at this
    exact this
  have O1 := hide ((unhide O0).turnHd (unhide T0) (.cells (tabV ot0) 24) (by simp) (keeps_cells g3 (ev ⟨1, 0, 20⟩).toList w2 0) BP)
  clear kg BP O0 B9 s9 X9 HZV
  go_upto_region 6 with (with_reducible refine wpList_store_en (by with_unfolding_all rfl) _ _ (by with_unfolding_all rfl) g3 0 ⟨1, 0, 20⟩ (by with_unfolding_all rfl) (by with_unfolding_all rfl) (unhide TB) ?_)
  clear TB
  generalize w2.setCells g3 0 (ev ⟨1, 0, 20⟩).toList = w3 at *
  have O2 := hide ((unhide O1).drew (unhide T0))
  have RT : ∀ (S' : World → (Nat → Prop) → Prop) (wx : World), Held W S' w1 wx (fun _ => False) [(g3, .cells (tabV ot0) 24)] → wx.rangeAt g3 0 (tabV ot0).toList := fun S' wx O j v hv => by
    rw [cell_of_block (O.at g3 (.cells (tabV ot0) 24) (by simp)), Nat.zero_add, ← Array.getElem?_toList]; exact hv
  have s9 : (Try.prog.info? 24).map (·.size) = some (tabV ot0).toList.length := by rw [Array.length_toList]; exact s147_tab9 ot0
  have CO : Hid (∀ w G, Has W w G m oA0 → Calls Try.prog 11 #[.pointer (some ⟨m, 0, none⟩), .int .i64 10, .agg (tabV ot0), .agg (dirV dirF)] w fun e w' => ∃ b, e = .returned (.tuple #[.pointer (some ⟨b, 0, none⟩), .int .i64 0]) ∧ SHas W m b (fun A w G => Has W w G m A) oS0 oA0 w' G ∧ Same G w w') := fun w G h => by
    have := sof_any M h 10 ot0 dirF (by decide) (by decide)
    refine this.mono ?_
    intro e w' hw
    unfold OfPost at hw
    have e0 : ofB (Fr.new 10 oA0.n) ot0 dirF = true := of_0
    rw [if_pos e0] at hw
    exact hw
  obtain ⟨TV, hTV⟩ : ∃ TV, TV = tabV ot0 := ⟨_, rfl⟩
  rw [← hTV] at RT s9 CO O2
  clear hTV
  refine wp_region_noPanic ?_
  refine wp_region_held_drew (S := fun w' => w'.rangeAt g3 0 TV.toList) (by kernel_rfl) (RT _ _ (unhide O2)) (fun hHeld => ?_)
  clear O1
  generalize w3.drew = w4 at *
  refine take_at 0 27 (v := ?_) rfl rfl (by kernel_rfl) (by kernel_rfl) (by kernel_rfl) (Or.inl ⟨by rfl, ?_⟩) hHeld ?_
  rotate_left
  · intro w hSw; go_simp; with_reducible rfl
  simp only [Act.put, List.setIfInBounds_toArray, List.set_cons_zero, List.set_cons_succ]
  refine take_at 1 28 rfl rfl (by kernel_rfl) (by kernel_rfl) (by kernel_rfl) (yieldsIf_load_mid (by rfl) 24 _ rfl g3 0 rfl TV.toList _ (fun w' h => h) Try.underlying24 rfl s9) hHeld ?_
  simp only [Act.put, List.setIfInBounds_toArray, List.set_cons_zero, List.set_cons_succ]
  refine wpAnyH_ready (rs := [2]) (by kernel_rfl) (by simp) ?_
  refine AllReadyH.cons rfl (fun K hK => ?_) AllReadyH.nil
  go_simp
  refine (dir_any w4).mono ?_
  rintro e w5 ⟨rfl, hb⟩
  have O3 := hide ((unhide O2).below (unhide T0) hb)
  go_wp2_with fail
  clear hHeld
  refine hK.out _ _ (RT _ _ (unhide O3)) (fun hNew => ?_)
  clear hK K hNew hb O2
  refine wpAnyH_ready (rs := [3]) (by kernel_rfl) (by simp) ?_
  refine AllReadyH.cons rfl (fun K hK => ?_) AllReadyH.nil
  go_simp
  refine (unhide CO _ _ (unhide O3).st).mono ?_
  rintro e w6 ⟨b, rfl, h1, h2⟩
  have O4 := hide ((unhide O3).call (St' := SHas W m b (fun A w G => Has W w G m A) oS0 oA0) h1 h2)
  go_wp2_with fail
  refine hK.out _ _ (RT _ _ (unhide O4)) (fun hNew => ?_)
  have hHeld := hNew
  clear hK K hNew h1 h2 O3 CO
  refine take_at 4 26 (v := ?_) rfl rfl (by kernel_rfl) (by kernel_rfl) (by kernel_rfl) (Or.inl ⟨by rfl, ?_⟩) hHeld ?_
  rotate_left
  · intro w hSw; go_simp; with_reducible rfl
  simp only [Act.put, List.setIfInBounds_toArray, List.set_cons_zero, List.set_cons_succ]
  refine take_at 5 31 (v := ?_) rfl rfl (by kernel_rfl) (by kernel_rfl) (by kernel_rfl) (Or.inl ⟨by rfl, ?_⟩) hHeld ?_
  rotate_left
  · intro w hSw; go_simp; with_reducible rfl
  simp only [Act.put, List.setIfInBounds_toArray, List.set_cons_zero, List.set_cons_succ]
  refine take_at 6 32 (v := ?_) rfl rfl (by kernel_rfl) (by kernel_rfl) (by kernel_rfl) (Or.inl ⟨by rfl, ?_⟩) hHeld ?_
  rotate_left
  · intro w hSw; go_simp; with_reducible rfl
  simp only [Act.put, List.setIfInBounds_toArray, List.set_cons_zero, List.set_cons_succ]
  refine take_at 7 4 (v := ?_) rfl rfl (by kernel_rfl) (by kernel_rfl) (by kernel_rfl) (Or.inl ⟨by rfl, ?_⟩) hHeld ?_
  rotate_left
  · intro w hSw; go_simp; with_reducible rfl
  simp only [Act.put, List.setIfInBounds_toArray, List.set_cons_zero, List.set_cons_succ]
  refine take_at 8 5 (v := ?_) rfl rfl (by kernel_rfl) (by kernel_rfl) (by kernel_rfl) (Or.inl ⟨by rfl, ?_⟩) hHeld ?_
  rotate_left
  · intro w hSw; go_simp; with_reducible rfl
  simp only [Act.put, List.setIfInBounds_toArray, List.set_cons_zero, List.set_cons_succ]
  refine wpAnyH_done (by kernel_rfl) ?_ _
  refine NoPanic.normal ?_
  clear hHeld RT s9
  have O5 := hide ((unhide O4).less (SHas.stay M b oS0 oA0) (L' := []) (by simp))
  clear O4 T0
  have CS1 : Hid (∀ w G, SHas W m b (fun A w G => Has W w G m A) oS0 oA0 w G → Calls Try.prog 17 #[.pointer (some ⟨b, 0, none⟩), .int .i64 0, .int .i64 3, .int .u64 7] w (Done (SHas W m b (fun A w G => Has W w G m A) oS1 oA1) w G (.int .i64 0))) := fun w G h => by
    have := set_any M h oS0_ok (ok_mono oA0_ok (by decide)) 0 3 7 ⟨by decide, by decide⟩
    rw [set_1] at this; exact this
  have CS2 : Hid (∀ w G, SHas W m b (fun A w G => Has W w G m A) oS1 oA1 w G → Calls Try.prog 17 #[.pointer (some ⟨b, 0, none⟩), .int .i64 0, .int .i64 4, .int .u64 8] w (Done (SHas W m b (fun A w G => Has W w G m A) oS2 oA2) w G (.int .i64 0))) := fun w G h => by
    have := set_any M h oS1_ok (ok_mono oA1_ok (by decide)) 0 4 8 ⟨by decide, by decide⟩
    rw [set_2] at this; exact this
  have CG : Hid (∀ w G, SHas W m b (fun A w G => Has W w G m A) oS2 oA2 w G → Calls Try.prog 30 #[.pointer (some ⟨b, 0, none⟩), .int .i64 0] w (Done (SHas W m b (fun A w G => Has W w G m A) oS2 oA2) w G (.tuple #[.agg (obV 1 0 oL), .int .i64 0]))) := fun w G h => by
    have := get_any M h oA2_ok.2.1 0
    unfold getT at this
    rw [get_V2, get_2] at this; exact this
  have CM : Hid (∀ w G, SHas W m b (fun A w G => Has W w G m A) oS2 oA2 w G → Calls Try.prog 18 #[.pointer (some ⟨b, 0, none⟩), .int .i64 3] w (Done (SHas W m b (fun A w G => Has W w G m A) oS2 oA2) w G (.tuple #[.int .i64 0, .int .i64 1]))) := fun w G h => by
    have := make_any M h oS2_ok (ok_mono oA2_ok (by decide)) 3
    rw [make_S2, make_M2, make_2.1, make_2.2.1] at this; exact this
  have CN : Hid (∀ w G, SHas W m b (fun A w G => Has W w G m A) oS2 oA2 w G → Calls Try.prog 31 #[.pointer (some ⟨b, 0, none⟩), .int .i64 1] w fun e w' => e = .returned (.tuple #[.int .i64 1, .int .i64 0, .int .i64 0]) ∧ Below w.heap.size w w') := fun w G h => by
    have := next_any h.rep 1
    unfold nextT at this
    rw [next_2.1, next_2.2.1, next_2.2.2] at this; exact this
  have CT1 : Hid (∀ w G, SHas W m b (fun A w G => Has W w G m A) oS1 oA1 w G → Calls Try.prog 27 #[.pointer (some ⟨b, 0, none⟩)] w fun e w' => e = .returned (.agg (tabV oS1.w)) ∧ Below w.heap.size w w') := fun w G h => table_obj h.rep
  have CT2 : Hid (∀ w G, SHas W m b (fun A w G => Has W w G m A) oS2 oA2 w G → Calls Try.prog 27 #[.pointer (some ⟨b, 0, none⟩)] w fun e w' => e = .returned (.agg (tabV oS2.w)) ∧ Below w.heap.size w w') := fun w G h => table_obj h.rep
  have TT1 := hide (SHas.stay M b oS1 oA1)
  have TT2 := hide (SHas.stay M b oS2 oA2)
  have TT0 := hide (SHas.stay M b oS0 oA0)
  have L1 : Hid ((tabV oS1.w)[2]? = some (.int .i64 18)) := by show _ = _; rw [tabV_cell _ 2 (by decide)]; show some (Value.int .i64 (oS1.w 0).l) = _; rw [line_1]
  have L2 : Hid ((tabV oS2.w)[2]? = some (.int .i64 18)) := by show _ = _; rw [tabV_cell _ 2 (by decide)]; show some (Value.int .i64 (oS2.w 0).l) = _; rw [line_2]
  have HM := hide M
  clear M
  have s1 := s147_tab oS1.w
  have s2 := s147_tab oS2.w
  have X1 := hide (tabV_one oS1.w)
  have X2 := hide (tabV_one oS2.w)
  have Z1 := hide zero_tab
  have SZ1 : Hid ((tabV fun _ => ze).size = (tabV oS1.w).size) := by show _ = _; rw [tabV_size, tabV_size]
  have SZ2 : Hid ((tabV fun _ => ze).size = (tabV oS2.w).size) := by show _ = _; rw [tabV_size, tabV_size]
  generalize (tabV fun _ => ze) = ZV at *
  have s10 := s10_ob 1 0 oL
  have X10 := hide (obV_one 1 0 oL)
  have Z10 := hide zero_ob
  have SZ10 : Hid ((obV 0 0 fun _ => 0).size = (obV 1 0 oL).size) := by show _ = _; rw [obV_size, obV_size]
  generalize (obV 0 0 fun _ => 0) = ZO at *
  have RO : Hid (∀ j, j < 8 → (obV 1 0 oL)[2 + j]? = some (.int .u64 (oL j))) := fun j hj => obV_cell 1 0 oL j hj
  generalize obV 1 0 oL = VO at *
  generalize hTA : tabV oS1.w = TA at *
  generalize hTB : tabV oS2.w = TB at *
  clear hTA hTB
  go_wp2_with fail
  refine (unhide CS1 _ _ (unhide O5).st).mono ?_
  rintro e w7 ⟨rfl, h1, h2⟩
  have O6 := hide ((unhide O5).call (St' := SHas W m b (fun A w G => Has W w G m A) oS1 oA1) h1 h2)
  clear h1 h2 O5 CS1
  go_wp2_with fail
  refine (unhide CT1 _ _ (unhide O6).st).mono ?_
  rintro e w8 ⟨rfl, hb⟩
  have O7 := hide (((unhide O6).below (unhide TT1) hb).alloc (unhide TT1) (.cells TA 59))
  clear hb O6 CT1
  go_upto_region 11 with (first | (with_reducible refine wpList_allocZ (by with_unfolding_all rfl) 59 (by with_unfolding_all rfl) ZV (unhide Z1) ?_) | (with_reducible refine wpList_store_row (by with_unfolding_all rfl) 59 _ _ (by with_unfolding_all rfl) w8.heap.size TA (by with_unfolding_all rfl) (by with_unfolding_all rfl) 59 ZV (heap_new w8 _) s1 (unhide SZ1) (unhide X1) ?_; rw [setRow_alloc]))
  obtain ⟨g7, hg7⟩ : ∃ g7, g7 = w8.heap.size := ⟨_, rfl⟩
  rw [← hg7] at O7 ⊢
  clear hg7
  generalize w8.alloc (.cells TA 59) = w9 at *
  go_wp2_with fail
  refine (unhide CS2 _ _ (unhide O7).st).mono ?_
  rintro e w10 ⟨rfl, h1, h2⟩
  have O8 := hide ((unhide O7).call (St' := SHas W m b (fun A w G => Has W w G m A) oS2 oA2) h1 h2)
  clear h1 h2 O7 CS2
  go_wp2_with fail
  refine (unhide CT2 _ _ (unhide O8).st).mono ?_
  rintro e w11 ⟨rfl, hb⟩
  have O9 := hide (((unhide O8).below (unhide TT2) hb).alloc (unhide TT2) (.cells TB 59))
  clear hb O8 CT2
  go_upto_region 13 with (first | (with_reducible refine wpList_allocZ (by with_unfolding_all rfl) 59 (by with_unfolding_all rfl) ZV (unhide Z1) ?_) | (with_reducible refine wpList_store_row (by with_unfolding_all rfl) 59 _ _ (by with_unfolding_all rfl) w11.heap.size TB (by with_unfolding_all rfl) (by with_unfolding_all rfl) 59 ZV (heap_new w11 _) s2 (unhide SZ2) (unhide X2) ?_; rw [setRow_alloc]))
  obtain ⟨g9, hg9⟩ : ∃ g9, g9 = w11.heap.size := ⟨_, rfl⟩
  rw [← hg9] at O9 ⊢
  clear hg9
  generalize w11.alloc (.cells TB 59) = w12 at *
  go_wp2_with fail
  refine (unhide CG _ _ (unhide O9).st).mono ?_
  rintro e w13 ⟨rfl, h1, h2⟩
  have O10 := hide (((unhide O9).call (St' := SHas W m b (fun A w G => Has W w G m A) oS2 oA2) h1 h2).alloc (unhide TT2) (.cells VO 77))
  clear h1 h2 O9 CG
  go_upto_region 14 with (first | (with_reducible refine wpList_allocZ (by with_unfolding_all rfl) 77 (by with_unfolding_all rfl) ZO (unhide Z10) ?_) | (with_reducible refine wpList_store_row (by with_unfolding_all rfl) 77 _ _ (by with_unfolding_all rfl) w13.heap.size VO (by with_unfolding_all rfl) (by with_unfolding_all rfl) 77 ZO (heap_new w13 _) s10 (unhide SZ10) (unhide X10) ?_; rw [setRow_alloc]))
  obtain ⟨g10, hg10⟩ : ∃ g10, g10 = w13.heap.size := ⟨_, rfl⟩
  rw [← hg10] at O10 ⊢
  clear hg10
  generalize w13.alloc (.cells VO 77) = w14 at *
  go_wp2_with fail
  refine (unhide CM _ _ (unhide O10).st).mono ?_
  rintro e w15 ⟨rfl, h1, h2⟩
  have O11 := hide ((unhide O10).call (St' := SHas W m b (fun A w G => Has W w G m A) oS2 oA2) h1 h2)
  clear h1 h2 O10 CM
  go_wp2_with fail
  refine (unhide CN _ _ (unhide O11).st).mono ?_
  rintro e w16 ⟨rfl, hb⟩
  have O12 := hide ((unhide O11).below (unhide TT2) hb)
  clear hb O11 CN
  have c7 : w16.cell? ⟨g7, 2, none⟩ = some (.int .i64 18) := by rw [cell_of_block ((unhide O12).at g7 (.cells TA 59) (by simp))]; exact unhide L1
  have c9 : w16.cell? ⟨g9, 2, none⟩ = some (.int .i64 18) := by rw [cell_of_block ((unhide O12).at g9 (.cells TB 59) (by simp))]; exact unhide L2
  have r10 : Hid (w16.rangeAt g10 2 (lnV oL).toList) := fun j v hv => by
    have hj : j < 8 := by
      rcases Nat.lt_or_ge j 8 with h' | h'
      · exact h'
      · rw [Array.getElem?_toList, Array.getElem?_eq_none (by rw [lnV_size]; exact h')] at hv; cases hv
    rw [Array.getElem?_toList, lnV_get _ _ hj] at hv
    rw [cell_of_block ((unhide O12).at g10 (.cells VO 77) (by simp)), unhide RO j hj]; exact hv
  have KP := hide (unhide TT2).sz
  have HK : Hid (Keeps (fun _ => False) W w16) := unhide KP _ _ (unhide O12).1
  have s8 : (Try.prog.info? 56).map (·.size) = some (lnV oL).toList.length := by rw [Array.length_toList]; exact s8_ln oL
  have BL := hide built_oL
  have EQ : Hid (eqL oL oL = true) := eqL_refl oL
  clear O12 KP TT0 TT1 TT2 L1 L2 s1 s2 X1 X2 Z1 SZ1 SZ2 s10 X10 Z10 SZ10 RO HM
  go_wp2_with (first | (with_reducible refine wpList_load_mid_w (by with_unfolding_all rfl) 56 _ (by with_unfolding_all rfl) g10 2 (by with_unfolding_all rfl) (lnV oL).toList _ (unhide r10) Try.underlying56 (by with_unfolding_all rfl) s8 ?_) | (with_reducible refine wpList_build34 (by with_unfolding_all rfl) _ _ (by with_unfolding_all rfl) (.int .u64 7) (.int .u64 8) (by with_unfolding_all rfl) (by with_unfolding_all rfl) (lnV oL) (unhide BL) ?_) | (with_reducible refine wpList_eql (by with_unfolding_all rfl) (.tmp 86) (.tmp 87) (by with_unfolding_all rfl) oL oL (by with_unfolding_all rfl) (by with_unfolding_all rfl) ?_; rw [unhide EQ]))
  go_ret
  exact ⟨rfl, unhide HK⟩

end Go.Proofs.Ytjmgmbigbkllgaa
