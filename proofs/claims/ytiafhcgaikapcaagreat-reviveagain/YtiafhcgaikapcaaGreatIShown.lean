
/-
  shown of steadfastlaw12: the document's examples of layer 12.
-/
import Derived.Test.YtiafhcgaikapcaaGreatPkRa
import Derived.Deep.Cut
namespace Go.Proofs.YtiafhcgaikapcaaGreat
open Go.ChangeShapes Go.WideShapes Go.ChangeAt Go.RowKit Go.Joins
set_option maxRecDepth 100000
set_option linter.unusedVariables false
set_option linter.unusedSimpArgs false

def f12 : Nat → Int := fun j => if j = 0 then 1 else if j = 1 then 2 else 0
def f129 : Nat → Int := fun j => if j = 3 then 9 else f12 j
def ob1 : Ob := ⟨1, 0, f12⟩
theorem build_f12 : Tryz.prog.built 83 [(0, .int .u64 1), (1, .int .u64 2)] = some (lnV f12) := by kernel_rfl
theorem build_f129 : Tryz.prog.built 83 [(0, .int .u64 1), (1, .int .u64 2), (2, .int .u64 0), (3, .int .u64 9)] = some (lnV f129) := by kernel_rfl
theorem build_ob02 (k : Int) (f : Nat → Int) : Tryz.prog.built 88 [(0, .int .i64 k), (2, .agg (lnV f))] = some (obV k 0 f) := by kernel_rfl
theorem wpList_build2i {P : Program} {ops : Array Oper} {rest : List Oper} {o : Oper} {a : Act} {w : World} {Q : Exit → Act → World → Prop} (hw : Region.wanted o (yielded ops a.tmps) = true) (t : TypeId) (i j : Nat) (x y : Operand) (ho : o.op = .build t #[(i, x), (j, y)]) (u v : Value) (hx : a.eval x = u) (hy : a.eval y = v) (cs : Array Value)
    (hb : P.built t [(i, u), (j, v)] = some cs) (h : wpList P ops Q rest (a.put o.dst (.agg cs)) w) : wpList P ops Q (o :: rest) a w :=
  wpList_step fun K hK => by
    rw [if_pos hw]
    have h2 := run_build (P := P) w t #[(i, u), (j, v)] cs hb
    subst hx hy
    unfold Oper.wp execOp
    simp only [ho, Sem.run_bind]
    rw [show (#[(i, x), (j, y)].map fun p => (p.1, a.eval p.2)) = #[(i, a.eval x), (j, a.eval y)] by simp, h2]
    exact hK _ _ h
theorem wpList_build4w {P : Program} {ops : Array Oper} {rest : List Oper} {o : Oper} {a : Act} {w : World} {Q : Exit → Act → World → Prop} (hw : Region.wanted o (yielded ops a.tmps) = true) (t : TypeId) (x0 x1 x2 x3 : Operand) (ho : o.op = .build t #[(0, x0), (1, x1), (2, x2), (3, x3)]) (u0 u1 u2 u3 : Value) (h0 : a.eval x0 = u0) (h1 : a.eval x1 = u1) (h2 : a.eval x2 = u2) (h3 : a.eval x3 = u3) (cs : Array Value)
    (hb : P.built t [(0, u0), (1, u1), (2, u2), (3, u3)] = some cs) (h : wpList P ops Q rest (a.put o.dst (.agg cs)) w) : wpList P ops Q (o :: rest) a w :=
  wpList_step fun K hK => by
    rw [if_pos hw]
    have h4 := run_build (P := P) w t #[(0, u0), (1, u1), (2, u2), (3, u3)] cs hb
    subst h0 h1 h2 h3
    unfold Oper.wp execOp
    simp only [ho, Sem.run_bind]
    rw [show (#[((0 : Nat), x0), (1, x1), (2, x2), (3, x3)].map fun p => (p.1, a.eval p.2)) = #[(0, a.eval x0), (1, a.eval x1), (2, a.eval x2), (3, a.eval x3)] by simp, h4]
    exact hK _ _ h
theorem fill_ob (k : Int) (f : Nat → Int) : Array.foldl (fun (cs : Array Value) (x : Value × Nat) => cs.setIfInBounds x.snd x.fst) #[.int .i64 0, .int .i64 0, .int .u64 0, .int .u64 0, .int .u64 0, .int .u64 0, .int .u64 0, .int .u64 0, .int .u64 0, .int .u64 0] ((obV k 0 f).zipIdx) 0 (obV k 0 f).size = obV k 0 f := by kernel_rfl
set_option maxHeartbeats 16000000 in
theorem ishown_any (W : World) : Calls Tryz.prog 48 #[] W fun e w' => e = .returned (.bool true) ∧ Keeps (fun _ => False) W w' := by
  go_enter Tryz.func48, Tryz.ntmps48
  go_wp2_with fail
  refine (new_any W 64 (by decide) (by decide)).mono ?_
  intro e w1 hm
  obtain ⟨m, rfl, h0, -⟩ := made_has W (Keeps.refl _ _) hm (fun _ => False) (fun _ h => h.elim)
  have M := hide (Has.memI W m)
  obtain ⟨A0, hA0⟩ : ∃ A, A = Mm.new 64 (fun _ _ => 0) := ⟨_, rfl⟩
  rw [← hA0] at h0
  have HA0 := hide hA0
  have O0 := hide (Held.start ((unhide M).stay A0) h0)
  have HK0 : Hid (A0.ok 0) := by rw [hA0]; exact new0_ok 64 (by decide) (by decide)
  have CB := hide (fun (w' : World) (G' : Nat → Prop) (h' : Has W w' G' m A0) => imboot_any (unhide M) h' 0 (unhide HK0) (by have := A0.rs_le; omega))
  have EB : Hid (bootE A0 = 20 ∧ bootM A0 = A0) := by rw [hA0]; exact new_boot 64
  clear hm h0 hA0
  go_wp2_with fail
  refine (unhide CB _ _ (unhide O0).st).mono ?_
  intro e w2 hq
  unfold BoPost at hq
  rw [(unhide EB).1, (unhide EB).2, if_neg (by decide)] at hq
  obtain ⟨rfl, h1, h2⟩ := hq
  have O1 := hide (((unhide O0).call (St' := fun w G => Has W w G m A0) h1 h2).alloc ((unhide M).stay A0) (.cells imgZ 111))
  clear h1 h2 CB EB O0
  have ZI := hide zero_img
  go_upto_region 5 with (first | (with_reducible refine wpList_allocZ (by with_unfolding_all rfl) 111 (by with_unfolding_all rfl) imgZ (unhide ZI) ?_) | (with_reducible refine wpList_store_row (by with_unfolding_all rfl) 111 _ _ (by with_unfolding_all rfl) w2.heap.size imgZ (by with_unfolding_all rfl) (by with_unfolding_all rfl) 111 imgZ (heap_new w2 _) s7_img0 rfl imgZ_one ?_; rw [setRow_alloc]))
  obtain ⟨g3, hg3⟩ : ∃ g, g = w2.heap.size := ⟨_, rfl⟩
  rw [← hg3] at O1 ⊢
  clear hg3
  generalize w2.alloc (.cells imgZ 111) = w3 at *
  have BL := hide build_f12
  have BO := hide (build_ob02 1 f12)
  have OV := hide ((unhide O1).alloc ((unhide M).stay A0) (.cells (obV 1 0 f12) 88))
  go_wp2_with (first | (with_reducible refine wpList_build2i (by with_unfolding_all rfl) 83 0 1 _ _ (by with_unfolding_all rfl) (.int .u64 1) (.int .u64 2) (by with_unfolding_all rfl) (by with_unfolding_all rfl) _ (unhide BL) ?_) | (with_reducible refine wpList_build2i (by with_unfolding_all rfl) 88 0 2 _ _ (by with_unfolding_all rfl) (.int .i64 1) (.agg (lnV f12)) (by with_unfolding_all rfl) (by with_unfolding_all rfl) _ (unhide BO) ?_))
  rw [fill_ob]
  obtain ⟨gs, hgs⟩ : ∃ g, g = w3.heap.size := ⟨_, rfl⟩
  rw [← hgs] at OV ⊢
  clear hgs O1 BL BO
  generalize w3.alloc (.cells (obV 1 0 f12) 88) = w4 at *
  have HOB : Hid (∀ w' : World, w'.heap[gs]? = some (.cells (obV 1 0 f12) 88 (0, 0)) → ObsAt w' (some ⟨gs, 0, none⟩) [ob1]) := fun w' h => Or.inr ⟨gs, 0, rfl, fun i hi => by
    obtain rfl : i = 0 := by simpa using hi
    intro j v hv
    rw [cell_of_block h]
    have hv' : (obV 1 0 f12).toList[j]? = some v := hv
    rw [Array.getElem?_toList] at hv'
    rw [show 0 + 0 * 10 + j = j by omega]; exact hv'⟩
  have HIN1 : ∀ x ∈ [ob1], ObIn x := fun x hx => by
    obtain rfl : x = ob1 := by simpa using hx
    refine ⟨⟨by decide, by decide⟩, ⟨by decide, by decide⟩, fun j => ?_⟩
    show InU (f12 j)
    unfold f12 InU
    split
    · omega
    · split <;> omega
  have HIU : ∀ j i, InU (([ob1].getD j ob0).l i) := fun j i => by
    match j with
    | 0 => exact (HIN1 ob1 (by simp)).2.2 i
    | j + 1 => show InU 0; exact ⟨by decide, by decide⟩
  obtain ⟨F1, F2, F3⟩ := new_fmt 64 1 (by decide) (by decide) [ob1] (by decide) (by decide)
  have KF := fmtP_okt (new0_ok 64 (by decide) (by decide)) 1 [ob1] HIU
  rw [← unhide HA0] at F1 F2 F3 KF
  have CF := hide (format_any (unhide M) (unhide OV).st (ok_mono (unhide HK0) (by omega)) 1 (some ⟨gs, 0, none⟩) 1 [ob1] (by decide) HIN1 (fun w' hk hs => unhide HOB w' ((hs gs (Or.inr ⟨_, List.mem_cons_self⟩)).trans ((unhide OV).at gs (.cells (obV 1 0 f12) 88) (by simp)))))
  have F1' : (fmtP A0 1 [ob1]).2 = 0 := F1
  rw [F1'] at CF
  obtain ⟨A1, hA1⟩ : ∃ A, A = (fmtP A0 1 [ob1]).1 := ⟨_, rfl⟩
  have hA1' : (fmtP A0 ((1 : Nat) : Int) [ob1]).1 = A1 := hA1.symm
  rw [hA1'] at F2 F3 KF
  rw [← hA1] at CF
  have HI1 := hide F3
  have HS1 := hide F2
  have HK1 : Hid (A1.ok 106) := ok_mono KF (by decide)
  clear hA1 hA1' KF F1 F2 F3 F1' HIN1 HIU HOB HK0 HA0
  refine (unhide CF).mono ?_
  rintro e w5 ⟨rfl, h1, h2⟩
  have O2 := hide ((unhide OV).call (St' := fun w G => Has W w G m A1) h1 h2)
  clear h1 h2 CF OV
  have hc1 : Calm A1 := by obtain ⟨D, hD⟩ := unhide HS1; exact hD.calm
  have hrs1 : A1.rs = [] := (unhide HI1).scanned hc1.1
  obtain ⟨b1, b2, b3, b4, b5, b6⟩ := (unhide HI1).boot hc1 (by rw [hrs1]; decide)
  have hbM1 := boot_none hrs1
  have hN1 : bootN A1 = 1 := by unfold bootN; rw [hrs1, b6]; rfl
  have hS1 : bootS A1 = ofS (Fr.new (fromN 1) 64) (tabO (fromN 1) [ob1]) (dirO (fromN 1 + cntO [ob1])) := by
    unfold bootS rd2
    rw [hrs1]
    exact ((unhide HI1).read hc1.1).2
  have CB := hide (fun (w' : World) (G' : Nat → Prop) (h' : Has W w' G' m A1) => imboot_any (unhide M) h' 106 (unhide HK1) (by have := A1.rs_le; omega))
  have EB : Hid (bootE A1 = 0 ∧ bootM A1 = A1 ∧ bootN A1 = 1) := ⟨b1, hbM1, hN1⟩
  have ES1 := hide hS1
  clear b1 b2 b3 b4 b5 b6 hbM1 hN1 hS1 hrs1
  go_wp2_with fail
  refine (unhide CB _ _ (unhide O2).st).mono ?_
  intro e w6 hq
  unfold BoPost at hq
  rw [if_pos (unhide EB).1, (unhide EB).2.1, (unhide EB).2.2] at hq
  obtain ⟨p1, rfl, h1, h2⟩ := hq
  have M1 := hide (SHas.memI (unhide M) p1 (bootS A1))
  have O3 := hide ((unhide O2).call (St' := SHas W m p1 (fun A w G => Has W w G m A) (bootS A1) A1) h1 h2)
  generalize A1.findV.getD 0 0 = y0 at *
  generalize A1.rt = y1 at *
  generalize A1.sq = y2 at *
  generalize A1.cs = y3 at *
  generalize A1.findAt = y4 at *
  obtain ⟨IV1, hIV1⟩ : ∃ V, V = imgV (some ⟨p1, 0, none⟩) y0 y1 y2 y3 y4 1 := ⟨_, rfl⟩
  have O4 := hide ((unhide O3).alloc ((unhide M1).stay A1) (.cells IV1 111))
  have SI1 : Hid ((Tryz.prog.info? 111).map (·.size) = some IV1.size) := by rw [hIV1]; exact s7_img _ _ _ _ _ _ _
  have SZ1 : Hid (imgZ.size = IV1.size) := by rw [hIV1]; exact (rfl : imgZ.size = _)
  have XI1 : Hid (IV1.all (·.oneCell') = true) := by rw [hIV1]; exact imgV_one _ _ _ _ _ _ _
  have VC1 : Hid (IV1[0]? = some (.pointer (some ⟨p1, 0, none⟩)) ∧ IV1[6]? = some (.int .i64 1)) := by rw [hIV1]; exact ⟨rfl, rfl⟩
  rw [← hIV1]
  clear h1 h2 CB EB O2 O3 hIV1
  go_upto_region 7 with (first | (with_reducible refine wpList_allocZ (by with_unfolding_all rfl) 111 (by with_unfolding_all rfl) imgZ (unhide ZI) ?_) | (with_reducible refine wpList_store_row (by with_unfolding_all rfl) 111 _ _ (by with_unfolding_all rfl) w6.heap.size IV1 (by with_unfolding_all rfl) (by with_unfolding_all rfl) 111 imgZ (heap_new w6 _) (unhide SI1) (unhide SZ1) (unhide XI1) ?_; rw [setRow_alloc]))
  obtain ⟨g6, hg6⟩ : ∃ g, g = w6.heap.size := ⟨_, rfl⟩
  rw [← hg6] at O4 ⊢
  clear hg6 SI1 SZ1 XI1
  generalize w6.alloc (.cells IV1 111) = w7 at *
  obtain ⟨D1, hD1⟩ := unhide HS1
  obtain ⟨a1, a2, a3⟩ := (unhide HI1).app hD1 (k := 0) (j := 0) (by decide) (by decide) 0 (r := ⟨1, 0, 3, 9⟩) (by decide) rfl (fun i hi => absurd hi (Nat.not_lt_zero i))
  have CA := hide ((unhide O4).st.appI (ok_mono (unhide HK1) (by omega)) 0 0 ⟨1, 0, 3, 9⟩ ⟨by decide, by decide⟩)
  have KA := ok_appZ (unhide HK1) 0 0 ⟨1, 0, 3, 9⟩ ⟨by decide, by decide⟩
  have a1' : A1.appE 0 0 ⟨1, 0, 3, 9⟩ = 0 := a1
  rw [a1'] at CA
  obtain ⟨A2, hA2⟩ : ∃ A, A = A1.appZ 0 0 ⟨1, 0, 3, 9⟩ := ⟨_, rfl⟩
  have hA2' : A1.appZ ((0 : Nat) : Int) 0 ⟨1, 0, 3, 9⟩ = A2 := hA2.symm
  rw [hA2'] at a2 a3
  rw [← hA2] at CA KA
  have HI2 := hide a3
  have hc2 : Calm A2 := a2.calm
  have HK2 := hide KA
  clear hA2 hA2' a1 a1' a2 a3 KA hD1 hc1
  have CA2 : Hid (Calls Tryz.prog 62 #[.pointer (some ⟨m, 0, none⟩), .int .i64 0, .int .i64 0, .agg #[.int .i64 1, .int .i64 0, .int .i64 3, .int .u64 9]] w7 _) := unhide CA
  clear CA
  go_wp2_with fail
  refine (unhide CA2).mono ?_
  rintro e w8 ⟨rfl, h1, h2⟩
  have O5 := hide ((unhide O4).call (St' := SHas W m p1 (fun A w G => Has W w G m A) (bootS A1) A2) h1 h2)
  clear h1 h2 CA2 O4
  have hrs2 : A2.rs = [⟨1, 0, 3, 9⟩] := (unhide HI2).scanned hc2.1
  obtain ⟨b1, b2, b3, b4, b5, b6⟩ := (unhide HI2).boot hc2 (by rw [hrs2]; decide)
  have hN2 : bootN A2 = 2 := by unfold bootN; rw [hrs2, b6]; rfl
  have CB := hide (fun (w' : World) (G' : Nat → Prop) (h' : SHas W m p1 (fun A w G => Has W w G m A) (bootS A1) A2 w' G') => imboot_any (unhide M1) h' _ (unhide HK2) (by have := A2.rs_le; omega))
  have EB : Hid (bootE A2 = 0 ∧ bootN A2 = 2) := ⟨b1, hN2⟩
  rw [hrs2] at b3
  have HC2 := hide b3
  have HI3 := hide b4
  clear b1 b2 b3 b4 b5 b6 hN2 hrs2
  go_wp2_with fail
  refine (unhide CB _ _ (unhide O5).st).mono ?_
  intro e w9 hq
  unfold BoPost at hq
  rw [if_pos (unhide EB).1, (unhide EB).2] at hq
  obtain ⟨p2, rfl, h1, h2⟩ := hq
  obtain ⟨A3, hA3⟩ : ∃ A, A = bootM A2 := ⟨_, rfl⟩
  rw [← hA3] at h1 HC2 HI3
  have O6 := hide ((unhide O5).call (St' := SHas W m p2 (fun A w G => SHas W m p1 (fun A w G => Has W w G m A) (bootS A1) A w G) (bootS A2) A3) h1 h2)
  have TT := hide (SHas.stay (unhide M1).toMemL p2 (bootS A2) A3)
  generalize A2.findV.getD 0 0 = z0 at *
  generalize A2.rt = z1 at *
  generalize A2.sq = z2 at *
  generalize A2.cs = z3 at *
  generalize A2.findAt = z4 at *
  obtain ⟨IV2, hIV2⟩ : ∃ V, V = imgV (some ⟨p2, 0, none⟩) z0 z1 z2 z3 z4 2 := ⟨_, rfl⟩
  have O7 := hide ((unhide O6).alloc (unhide TT) (.cells IV2 111))
  have SI1 : Hid ((Tryz.prog.info? 111).map (·.size) = some IV2.size) := by rw [hIV2]; exact s7_img _ _ _ _ _ _ _
  have SZ1 : Hid (imgZ.size = IV2.size) := by rw [hIV2]; exact (rfl : imgZ.size = _)
  have XI1 : Hid (IV2.all (·.oneCell') = true) := by rw [hIV2]; exact imgV_one _ _ _ _ _ _ _
  have VC2 : Hid (IV2[0]? = some (.pointer (some ⟨p2, 0, none⟩)) ∧ IV2[6]? = some (.int .i64 2)) := by rw [hIV2]; exact ⟨rfl, rfl⟩
  rw [← hIV2]
  clear h1 h2 CB EB O5 O6 hIV2
  go_upto_region 9 with (first | (with_reducible refine wpList_allocZ (by with_unfolding_all rfl) 111 (by with_unfolding_all rfl) imgZ (unhide ZI) ?_) | (with_reducible refine wpList_store_row (by with_unfolding_all rfl) 111 _ _ (by with_unfolding_all rfl) w9.heap.size IV2 (by with_unfolding_all rfl) (by with_unfolding_all rfl) 111 imgZ (heap_new w9 _) (unhide SI1) (unhide SZ1) (unhide XI1) ?_; rw [setRow_alloc]))
  obtain ⟨g9, hg9⟩ : ∃ g, g = w9.heap.size := ⟨_, rfl⟩
  rw [← hg9] at O7 ⊢
  clear hg9 SI1 SZ1 XI1 ZI
  generalize w9.alloc (.cells IV2 111) = w10 at *
  have i60 : w10.cell? ⟨g6, 0, none⟩ = some (.pointer (some ⟨p1, 0, none⟩)) := by rw [cell_of_block ((unhide O7).at g6 (.cells IV1 111) (by simp))]; exact (unhide VC1).1
  have i90 : w10.cell? ⟨g9, 0, none⟩ = some (.pointer (some ⟨p2, 0, none⟩)) := by rw [cell_of_block ((unhide O7).at g9 (.cells IV2 111) (by simp))]; exact (unhide VC2).1
  have hc3 := (unhide HC2).calm
  have hI1 := (unhide HI3).begun hc3 0 (by decide)
  rw [← unhide ES1] at hI1
  have hn3 : A3.n ≤ 1024 := by rw [(unhide HI3).an]; decide
  have G1 := (hI1.get 0 (by decide)).1 (by decide)
  have G2 := ((unhide HC2).get 0 (by decide)).1 (by decide)
  have T1 : Hid (getT (bootS A1) A3 0 = .tuple #[.agg (obV 1 0 f12), .int .i64 0]) := by
    show getT (bootS A1) A3 ((0 : Nat) : Int) = _
    unfold getT; rw [G1.1, G1.2]; rfl
  have T2 : Hid (getT (bootS A2) A3 0 = .tuple #[.agg (obV 1 0 f129), .int .i64 0]) := by
    show getT (bootS A2) A3 ((0 : Nat) : Int) = _
    unfold getT; rw [G2.1, G2.2]
    have e : (tabO (fromN 1) [ob1] 0).k = 1 ∧ (tabO (fromN 1) [ob1] 0).v = 0 := ⟨rfl, rfl⟩
    rw [e.1, e.2]
    congr 2
  have CG1 := hide (fun (w' : World) (G' : Nat → Prop) (h' : SHas W m p2 (fun A w G => SHas W m p1 (fun A w G => Has W w G m A) (bootS A1) A w G) (bootS A2) A3 w' G') => (get_any (unhide M).toMemL h'.st hn3 0).mono fun e w'' hd => h'.under hd)
  have CG2 := hide (fun (w' : World) (G' : Nat → Prop) (h' : SHas W m p2 (fun A w G => SHas W m p1 (fun A w G => Has W w G m A) (bootS A1) A w G) (bootS A2) A3 w' G') => get_any (unhide M1).toMemL h' hn3 0)
  rw [unhide T1] at CG1
  rw [unhide T2] at CG2
  have ZO := hide zero_ob
  have S1 := hide (s10_ob 1 0 f12)
  have S2 := hide (s10_ob 1 0 f129)
  have X1 := hide (obV_one 1 0 f12)
  have X2 := hide (obV_one 1 0 f129)
  have Q1 : Hid ((obV 0 0 fun _ => 0).size = (obV 1 0 f12).size) := by show _ = _; rw [obV_size, obV_size]
  have Q2 : Hid ((obV 0 0 fun _ => 0).size = (obV 1 0 f129).size) := by show _ = _; rw [obV_size, obV_size]
  have R1 := hide (fun (w' : World) (g : Nat) (h : w'.heap[g]? = some (.cells (obV 1 0 f12) 88 (0, 0))) => obC_range (x := ⟨1, 0, f12⟩) h)
  have R2 := hide (fun (w' : World) (g : Nat) (h : w'.heap[g]? = some (.cells (obV 1 0 f129) 88 (0, 0))) => obC_range (x := ⟨1, 0, f129⟩) h)
  clear hc3 hI1 hn3 G1 G2 T1 T2 hc2 HI1 HI2 HI3 HC2 HK1 HK2 ES1 hA3
  generalize (obV 0 0 fun _ => 0) = ZOV at *
  generalize obV 1 0 f12 = OV1 at *
  generalize obV 1 0 f129 = OV2 at *
  go_upto_region 11 with fail
  go_wp2_with fail
  refine (unhide CG1 _ _ (unhide O7).st).mono ?_
  rintro e w11 ⟨rfl, h1, h2⟩
  have O8 := hide (((unhide O7).call (St' := SHas W m p2 (fun A w G => SHas W m p1 (fun A w G => Has W w G m A) (bootS A1) A w G) (bootS A2) A3) h1 h2).alloc (unhide TT) (.cells OV1 88))
  clear h1 h2 CG1 O7 i60 i90
  go_upto_region 12 with (first | (with_reducible refine wpList_allocZ (by with_unfolding_all rfl) 88 (by with_unfolding_all rfl) ZOV (unhide ZO) ?_) | (with_reducible refine wpList_store_row (by with_unfolding_all rfl) 88 _ _ (by with_unfolding_all rfl) w11.heap.size OV1 (by with_unfolding_all rfl) (by with_unfolding_all rfl) 88 ZOV (heap_new w11 _) (unhide S1) (unhide Q1) (unhide X1) ?_; rw [setRow_alloc]))
  obtain ⟨g11, hg11⟩ : ∃ g, g = w11.heap.size := ⟨_, rfl⟩
  rw [← hg11] at O8 ⊢
  clear hg11 S1 Q1 X1
  generalize w11.alloc (.cells OV1 88) = w12 at *
  have i90 : w12.cell? ⟨g9, 0, none⟩ = some (.pointer (some ⟨p2, 0, none⟩)) := by rw [cell_of_block ((unhide O8).at g9 (.cells IV2 111) (by simp))]; exact (unhide VC2).1
  go_wp2_with fail
  refine (unhide CG2 _ _ (unhide O8).st).mono ?_
  rintro e w13 ⟨rfl, h1, h2⟩
  have O9 := hide (((unhide O8).call (St' := SHas W m p2 (fun A w G => SHas W m p1 (fun A w G => Has W w G m A) (bootS A1) A w G) (bootS A2) A3) h1 h2).alloc (unhide TT) (.cells OV2 88))
  clear h1 h2 CG2 O8 i90
  go_upto_region 13 with (first | (with_reducible refine wpList_allocZ (by with_unfolding_all rfl) 88 (by with_unfolding_all rfl) ZOV (unhide ZO) ?_) | (with_reducible refine wpList_store_row (by with_unfolding_all rfl) 88 _ _ (by with_unfolding_all rfl) w13.heap.size OV2 (by with_unfolding_all rfl) (by with_unfolding_all rfl) 88 ZOV (heap_new w13 _) (unhide S2) (unhide Q2) (unhide X2) ?_; rw [setRow_alloc]))
  obtain ⟨g13, hg13⟩ : ∃ g, g = w13.heap.size := ⟨_, rfl⟩
  rw [← hg13] at O9 ⊢
  clear hg13 S2 Q2 X2 ZO
  generalize w13.alloc (.cells OV2 88) = w14 at *
  have i66 : w14.cell? ⟨g6, 6, none⟩ = some (.int .i64 1) := by rw [cell_of_block ((unhide O9).at g6 (.cells IV1 111) (by simp))]; exact (unhide VC1).2
  have i96 : w14.cell? ⟨g9, 6, none⟩ = some (.int .i64 2) := by rw [cell_of_block ((unhide O9).at g9 (.cells IV2 111) (by simp))]; exact (unhide VC2).2
  have RR1 := hide (unhide R1 w14 g11 ((unhide O9).at g11 (.cells OV1 88) (by simp)))
  have RR2 := hide (unhide R2 w14 g13 ((unhide O9).at g13 (.cells OV2 88) (by simp)))
  have L1 : (lnV f12).toList.toArray = lnV f12 := Array.toArray_toList
  have L2 : (lnV f129).toList.toArray = lnV f129 := Array.toArray_toList
  have s81 : (Tryz.prog.info? 83).map (·.size) = some (lnV f12).toList.length := by rw [Array.length_toList]; exact s8_ln f12
  have s82 : (Tryz.prog.info? 83).map (·.size) = some (lnV f129).toList.length := by rw [Array.length_toList]; exact s8_ln f129
  have B1 := hide build_f12
  have B2 := hide build_f129
  have EQ1 : Hid (eqL f12 f12 = true) := (eqL_iff _ _).2 fun _ _ => rfl
  have EQ2 : Hid (eqL f129 f129 = true) := (eqL_iff _ _).2 fun _ _ => rfl
  clear R1 R2
  go_wp2_with (first | (with_reducible refine wpList_load_mid_w (by with_unfolding_all rfl) 83 (.tmp 80) (by with_unfolding_all rfl) g11 2 (by with_unfolding_all rfl) (lnV f12).toList _ (unhide RR1) Tryz.underlying83 (by with_unfolding_all rfl) s81 ?_; rw [L1]) | (with_reducible refine wpList_load_mid_w (by with_unfolding_all rfl) 83 (.tmp 99) (by with_unfolding_all rfl) g13 2 (by with_unfolding_all rfl) (lnV f129).toList _ (unhide RR2) Tryz.underlying83 (by with_unfolding_all rfl) s82 ?_; rw [L2]) | (with_reducible refine wpList_build2i (by with_unfolding_all rfl) 83 0 1 _ _ (by with_unfolding_all rfl) (.int .u64 1) (.int .u64 2) (by with_unfolding_all rfl) (by with_unfolding_all rfl) _ (unhide B1) ?_) | (with_reducible refine wpList_build4w (by with_unfolding_all rfl) 83 _ _ _ _ (by with_unfolding_all rfl) (.int .u64 1) (.int .u64 2) (.int .u64 0) (.int .u64 9) (by with_unfolding_all rfl) (by with_unfolding_all rfl) (by with_unfolding_all rfl) (by with_unfolding_all rfl) _ (unhide B2) ?_) | (with_reducible refine wpList_eql (by with_unfolding_all rfl) (.tmp 81) _ (by with_unfolding_all rfl) f12 f12 (by with_unfolding_all rfl) (by with_unfolding_all rfl) ?_; rw [unhide EQ1]) | (with_reducible refine wpList_eql (by with_unfolding_all rfl) (.tmp 100) _ (by with_unfolding_all rfl) f129 f129 (by with_unfolding_all rfl) (by with_unfolding_all rfl) ?_; rw [unhide EQ2]))
  go_ret
  exact ⟨rfl, (unhide TT).sz _ _ (unhide O9).1⟩

end Go.Proofs.YtiafhcgaikapcaaGreat
